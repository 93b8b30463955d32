/- A part of the proof. No condition. -/
import Derived.Deep.RegionWith
import Derived.Deep.RegionHeld3
import Derived.Deep.DeepCutAuto
import Derived.Deep.CutBlock
import Derived.Test.YtngnkmeaaneklaaGreatM1
import Derived.Test.YtngnkmeaaneklaaGreatM5
import Derived.Test.YtngnkmeaaneklaaGreatM6
import Derived.Test.YtngnkmeaaneklaaGreatM9
set_option linter.unusedVariables false
set_option linter.unusedSimpArgs false
set_option maxRecDepth 100000
set_option maxHeartbeats 40000000
namespace Go.Proofs.YtngnkmeaaneklaaGreat
open Tryz
namespace P13
open Go.RowKit Kd P4 P5 P11 P12 Mv
theorem yW{w:World}{B g n c:Nat}{ps:List Pl}(h:EH.Own w B (.slice (some (dA g 0)) n c) ps){i:Nat}(hi:i<ps.length):
 w.cell? ⟨g,i*2,none⟩=some (.map (some ps[i].m))/\w.cell? ⟨g,i*2+1,none⟩=some (.bool ps[i].sk)/\g<w.heap.size:=by
 obtain⟨A,p,q,j,_,_,_,_,k⟩:=h.slice;injection j with e1 e2 e3;subst e1;obtain⟨b,o,a,l,d⟩:=k.at hi;injection a with a;injection a with h1 h2;subst h1;subst h2;have e:=d 0 _ rfl;have f:=d 1 _ rfl;refine⟨?_,?_,l⟩
 ·rw[show 0+(i*EH.size+0)=i*2 by show 0+(i*2+0)=_;omega] at e;exact e
 ·rw[show 0+(i*EH.size+1)=i*2+1 by show 0+(i*2+1)=_;omega] at f;exact f
theorem fU(op:Int)(w:World){r:Bool}(hr:JB op=r):fA 171 #[aA op] w fun e w'=>e= .returned (.bool r)/\w=w':=by
 subst hr;by_cases a:op=5
 ·subst a;go_enter func171,ntmps171;go_wp2_with fail;go_ret;exact⟨rfl,rfl⟩
 by_cases b:op=6
 ·subst b;go_enter func171,ntmps171;go_wp2_with fail;go_ret;exact⟨rfl,rfl⟩
 have e:JB op=false:=(by simp[JB,a,b]);rw[e];have c:=int_ne a;have d:=int_ne b;go_enter func171,ntmps171;go_wp2_with fail;go_ret;exact⟨rfl,rfl⟩
structure Qt(w:World)(p g d:Nat)(nmv sk rt rk:Bool)(a b:wA):Prop where
 T:∀w9,eA w w9->fA 172 #[iA p,bA a] w9 fun e w'=>e= .returned (.bool rt)/\w9=w'
 D:∀w9,eA w w9->fA 148 #[iA p] w9 fun e w'=>e= .returned (aA d)/\w9=w'
 H:∀w9,eA w w9->fA 173 #[iA p] w9 fun e w'=>e= .returned (.pointer (some ⟨g,d*2,none⟩))/\∃j,w'=w9.drewN j
 S:∀w9,eA w w9->fA 175 #[.pointer (some ⟨g,d*2,none⟩),bA b] w9 fun e w'=>e= .returned (.bool rk)/\eA w9 w'
 K:∀w9,eA w w9->w9.cell? ⟨g,d*2+1,none⟩=some (.bool sk)
theorem iQ{P:List (List In)}{d:Nat}(h:P.length=d+1):oF P=P[d]'cA:=by
 rw[oF];exact kS (s:=P) (d:=d) cA h
theorem ir{w:World}{B p k:Nat}{P:List (List In)}{nm:Option (List (KA))}(h:aJ w B p k P nm)(hk:k<=1000)(a b:wA)(hb:b.size<=maxLen):
 ∃g d,P.length=d+1/\d<=8/\Qt w p g d nm.isSome (fI (oF P)) (decide (uI nm a.toList 0=0)) (ZI (oF P) b.toList) a b:=by
 obtain⟨g,c,d,G,A,n,E,td,H,q,I,v,O,T,J,K,y,j,r,L⟩:=h;refine⟨g,d,q,I,?_⟩;have l:p<w.heap.size:=FA v;have N:=cell_of_row w p 0 _ _ (0,0) v;have Q:=cell_of_row w p 1 _ _ (0,0) v;have R:=cell_of_row w p 2 _ _ (0,0) v;have t:w.cell? (dA p 0)=some (.slice (some (dA g 0)) (d+1) c):=N;have z:w.cell? (dA p 1)=some (.bool nm.isSome):=Q;have C:w.cell? (dA p 2)=some (.slice A n E):=R;obtain⟨S,U,F⟩:=yW O (i:=d) cA;obtain⟨hm,D,s,M⟩:=y d cA cA;rw[iQ q];have V:=M.lt;obtain⟨A',n',c9,W,_,_,_,_,X⟩:=T.slice;injection W with e1 e2 e3;subst e1;subst e2;subst e3;have Y:decide (uI nm a.toList 0=0)=true↔nm.isSome=true/\n<8/\a∉td:=by
  rw[decide_eq_true_iff];cases nm with
  |none=>simp[uI]
  |some ns=>
   have j:td.map (·.toList)=ns:=j;have hl:ns.length=n:=(by rw[<-j,List.length_map,r]);have u:a.toList∈ns↔a∈td:=by
    rw[<-j,List.mem_map];exact⟨fun⟨x,hx,e⟩=>toList_inj e▸hx,fun h=>⟨a,h,rfl⟩⟩
   rw[jM];constructor
   ·intro h;split at h
    ·cases h
    ·rename_i hno;exact⟨rfl,by omega,fun e=>hno (.inl (u.2 e))⟩
   ·rintro⟨_,h8,Z⟩;rw[if_neg];rintro(e|e)
    ·exact Z (u.1 e)
    ·omega
 refine⟨fun o f=>?_,fun o f=>?_,fun o f=>?_,fun o f=>?_,fun o f=>?_⟩
 ·exact xe p n E A nm.isSome td a o Y ((f.cell (p:=(dA p 1)) l).trans z) ((f.cell (p:=(dA p 2)) l).trans C) r cA (X.on f)
 ·exact NP p d c _ o ((f.cell (p:=(dA p 0)) l).trans t) cA
 ·exact U4 p g d c o ((f.cell (p:=(dA p 0)) l).trans t) cA
 ·refine lU g (d*2) G[d].m k s (gG P[d]) b o ((f.cell (p:=⟨g,d*2,none⟩) F).trans S) (M.below f V) hb ?_;rfl
 ·rw[<-D];exact(f.cell (p:=⟨g,d*2+1,none⟩) F).trans U
def codeF(bm bt rt sk kb rk:Bool)(op:Int)(d:Nat):Nat:=
 if bm=false then 7 else if bt=true then(if rt=true then 0 else 9) else if op=2 then(if d=0 then 8 else 0) else if sk=true then 11 else if(kb&&rk)=true then 10 else if op=1/\d=8 then 12 else 0
theorem xX{P:List (List In)}{nm:Option (List (KA))}{d:Nat}(hP:P.length=d+1)(hd:d<=8)(x:In):
 RI P nm x=codeF (gB x) (JB x.op) (decide (uI nm x.a.toList 0=0)) (fI (oF P)) (pE x) (ZI (oF P) x.b.toList) x.op d:=by
 have a:uI nm x.a.toList 0=if decide (uI nm x.a.toList 0=0)=true then 0 else 9:=by
  cases nm with
  |none=>rfl
  |some ns=>
   rw[jM];split<;>simp
 have b:(gD x.op && !x.b.toList.isEmpty&&(oF P).any (cH x))=(pE x&&ZI (oF P) x.b.toList):=by
  unfold pE ZI cH;cases gD x.op<;>cases x.b.toList.isEmpty<;>simp
 unfold RI codeF;rw[b];have c:(P.length<=1)=(d=0):=(by simp only[eq_iff_iff];omega);have e:(9<=P.length)=(d=8):=(by simp only[eq_iff_iff];omega);simp only[c,e];rw[show((oF P).any fun y=>decide (y.op=7))=fI (oF P) from rfl];split
 ·rfl
 split
 ·exact a
 rfl
theorem Ci{w:World}{B p k:Nat}{P:List (List In)}{nm:Option (List (KA))}(h:aJ w B p k P nm)(hk:k<=1000)(i:In)(ha:i.a.size<=300)(hb:i.b.size<=300):
 fA 146 #[iA p,.agg #[aA i.op,bA i.a,bA i.b]] w fun e w'=>e= .returned (UA (RI P nm i:Nat))/\eA w w':=by
 obtain⟨o,a,b⟩:=i;have ha:a.size<=300:=ha;have hb:b.size<=300:=hb;obtain⟨g,d,hP,hd,C⟩:=ir h hk a b wD;have hw:=xX (nm:=nm) hP hd ⟨o,a,b⟩;simp only at hw;have X:Hid (∀u,fA 125 #[.agg #[aA o,bA a,bA b]] u fun e w'=>e= .returned (.bool (gB ⟨o,a,b⟩))/\eA u w'):=Zh (fun u=>xb ⟨o,a,b⟩ u (Nat.le_trans ha cA) (Nat.le_trans hb cA));have E:Hid (∀u,fA 171 #[aA o] u fun e w'=>e= .returned (.bool (JB o))/\u=w'):=Zh (fun u=>fU o u rfl);have HK:Hid (∀u,fA 174 #[.agg #[aA o,bA a,bA b]] u fun e w'=>e= .returned (.bool (pE ⟨o,a,b⟩))/\eA u w'):=Zh (fun u=>dZ o a b u);have Y:Hid (JB o=true->(o==2)=false/\(o != 2)=true/\(o==1)=false/\pE ⟨o,a,b⟩=false):=Zh (fun e=>by
  simp only[JB,decide_eq_true_eq] at e;refine⟨int_ne cA,by rw[bne,int_ne cA];rfl,int_ne cA,?_⟩;simp only[pE,gD];rw[decide_eq_false cA];rfl)
 have R:Hid (o=2->pE ⟨o,a,b⟩=false):=Zh (fun e=>by subst e;rfl);rw[hw];clear hw h ha hb hk;have F:=Zh C;clear C;generalize gB ⟨o,a,b⟩=bm at X|-;generalize JB o=bt at E Y|-;generalize decide (uI nm a.toList 0=0)=rt at F|-;generalize fI (oF P)=sk at F|-;generalize ZI (oF P) b.toList=Z at F|-;generalize pE ⟨o,a,b⟩=kb at HK Y R|-;generalize nm.isSome=a3 at F;clear hP nm P;obtain⟨y,I⟩:=qA (codeF bm bt rt sk kb Z o d);rw[I];have A:=Zh I;clear I;have J:Hid (eA w (w.alloc (.cells #[aA o,bA a,bA b] 110))):=Zh (Zb _ _);have H:Hid (XB (w.alloc (.cells #[aA o,bA a,bA b] 110)) w.heap.size ⟨o,a,b⟩):=Zh (XB.new w ⟨o,a,b⟩);go_enter func146,ntmps146;go_upto_region 1 with fail;generalize w.alloc (.cells #[aA o,bA a,bA b] 110)=W at J H|-;have a0:w.heap.size<=w.heap.size:=Zl;obtain⟨x,hx⟩:∃x,x=w.heap.size:=⟨_,rfl⟩;have HX:=Zh hx;rw[<-hx] at H|-;clear hx a0;have c0:=H.c0;have c1:=H.c1;have c2:=H.c2;simp only at c0 c1 c2;cases bm with
 |false=>
  obtain rfl:y=7:=by rw[<-A.out];rfl
  go_wp2_with fail;refine(X _).mono ?_;rintro e l ⟨rfl,T⟩;go_wp2_with fail;go_ret;exact⟨rfl,J.trans (T.mono J.size)⟩
 |true=>
 go_wp2_with fail;refine(X _).mono ?_;rintro e l ⟨rfl,T⟩;have s:=Zh (J.trans (T.mono J.size));have L:=Zh (H.below T H.lt);clear T c0 c1 c2 H J X;have c0:=L.c0;have c1:=L.c1;have c2:=L.c2;simp only at c0 c1 c2;have f:Hid (∀m,eA l m->m.cell? (dA x 0)=some (aA o)/\m.cell? (dA x 1)=some (bA a)/\m.cell? (dA x 2)=some (bA b)):=Zh (fun m h=>by
  have N:=L.below h L.lt;exact⟨N.c0,N.c1,N.c2⟩)
 have c:Hid (eA l l):=Zh Ze;have M:Hid (∀m,eA l m->eA w m):=Zh (fun m h=>s.trans (h.mono s.size));have CT:Hid (∀m,eA l m->fA 172 #[iA p,bA a] m fun e w'=>e= .returned (.bool rt)/\m=w'):=Zh (fun m h=>F.T m (M m h));have O:Hid (∀m,eA l m->fA 148 #[iA p] m fun e w'=>e= .returned (aA d)/\m=w'):=Zh (fun m h=>F.D m (M m h));have Q:Hid (∀m,eA l m->fA 173 #[iA p] m fun e w'=>e= .returned (.pointer (some ⟨g,d*2,none⟩))/\∃j,w'=m.drewN j):=Zh (fun m h=>F.H m (M m h));have G:Hid (∀m,eA l m->fA 175 #[.pointer (some ⟨g,d*2,none⟩),bA b] m fun e w'=>e= .returned (.bool Z)/\eA m w'):=Zh (fun m h=>F.S m (M m h));have t:Hid (∀m,eA l m->fA 174 #[.agg #[aA o,bA a,bA b]] m fun e w'=>e= .returned (.bool kb)/\eA m w'):=Zh (fun m _=>HK m);have KS:Hid (∀m,eA l m->m.cell? ⟨g,d*2+1,none⟩=some (.bool sk)):=Zh (fun m h=>F.K m (M m h));clear M F HK L;cases bt with
 |true=>
  obtain⟨q2,U,q1,rfl⟩:=Y rfl;cases rt with
  |false=>
   obtain rfl:y=9:=by rw[<-A.out];rfl
   go_wp2_with fail;refine zA (E _) ?_;go_wp2_with fail;refine zA (CT _ c) ?_;go_wp2_with fail;go_ret;exact⟨rfl,s⟩
  |true=>
   obtain rfl:y=0:=by rw[<-A.out];rfl
   go_wp2_with fail;refine zA (E _) ?_;go_wp2_with fail;refine zA (CT _ c) ?_;go_wp2_with fail;refine(E _).mono ?_;rintro e w' ⟨rfl,rfl⟩;go_upto_region 9 with fail;refine wp_region_held_drew (S:=fun w'=>w'.cell? (dA x 0)=some (aA o)/\w'.cell? (dA x 1)=some (bA a)/\w'.cell? (dA x 2)=some (bA b)) (by kernel_rfl) (f _ (WC c)) (fun hHeld=>?_)
   repeat' (first
    |refine Zu 0 51 ?_
    |refine Zu 2 53 ?_
    |refine Zu 8 59 ?_
    |refine Zu 9 50 ?_
    |refine Zj 3 54 ?_
    |refine Zj 4 55 ?_
    |refine Zj 5 56 ?_
    |refine Zj 6 57 ?_
    |refine Zj 7 58 ?_
    |refine Zq [1] ?_
    |refine AllReadyH.cons rfl (fun K hK=>?_) ?_
    |exact AllReadyH.nil
    |(rw[if_pos (by rfl)]
      go_simp;go_at_call 174;refine(t _ (by first|exact c|exact WC c)).mono ?_;rintro e r ⟨rfl,n⟩;have c:Hid (eA l r):=Zh (by first|exact VE n c|exact VE n (WC c));clear n;refine hK _ _ ?_ (fun hHeld=>?_)
      ·exact f _ c
      clear hK K;(try simp only[Zs]))
    |(refine wpAnyH_done (by decide +kernel) ?_ _
      (try simp only[Act.put,List.getElem_toArray,List.getElem_cons_succ,List.getElem_cons_zero,List.setIfInBounds_toArray,List.set_cons_zero,List.set_cons_succ]);go_wp2_with fail;go_ret;exact⟨rfl,s.trans (c.mono s.size)⟩))
 |false=>
  clear Y;by_cases D:o=2
  ·have q2:(o==2)=true:=int_eq D;have U:(o != 2)=false:=(by rw[bne,q2];rfl);have q1:(o==1)=false:=int_ne cA;obtain rfl:=R D;by_cases h0:d=0
   ·subst h0;obtain rfl:y=8:=by rw[<-A.out];simp[codeF,D]
    clear A D;go_wp2_with fail;refine zA (E _) ?_;go_wp2_with fail;refine zA (O _ c) ?_;go_wp2_with fail;go_ret;exact⟨rfl,s⟩
   ·have q0:((d:Int)==0)=false:=int_ne cA;obtain rfl:y=0:=by rw[<-A.out];simp[codeF,D,h0]
    clear A D h0;go_wp2_with fail;refine zA (E _) ?_;go_wp2_with fail;refine(O _ c).mono ?_;rintro e w' ⟨rfl,rfl⟩;go_upto_region 9 with fail;refine wp_region_held_drew (S:=fun w'=>w'.cell? (dA x 0)=some (aA o)/\w'.cell? (dA x 1)=some (bA a)/\w'.cell? (dA x 2)=some (bA b)) (by kernel_rfl) (f _ (WC c)) (fun hHeld=>?_)
    repeat' (first
     |refine Zu 0 51 ?_
     |refine Zu 2 53 ?_
     |refine Zu 8 59 ?_
     |refine Zu 9 50 ?_
     |refine Zj 3 54 ?_
     |refine Zj 4 55 ?_
     |refine Zj 5 56 ?_
     |refine Zj 6 57 ?_
     |refine Zj 7 58 ?_
     |refine Zq [1] ?_
     |refine AllReadyH.cons rfl (fun K hK=>?_) ?_
     |exact AllReadyH.nil
     |(rw[if_pos (by rfl)]
       go_simp;go_at_call 174;refine(t _ (by first|exact c|exact WC c)).mono ?_;rintro e r ⟨rfl,n⟩;have c:Hid (eA l r):=Zh (by first|exact VE n c|exact VE n (WC c));clear n;refine hK _ _ ?_ (fun hHeld=>?_)
       ·exact f _ c
       clear hK K;(try simp only[Zs]))
     |(refine wpAnyH_done (by decide +kernel) ?_ _
       (try simp only[Act.put,List.getElem_toArray,List.getElem_cons_succ,List.getElem_cons_zero,List.setIfInBounds_toArray,List.set_cons_zero,List.set_cons_succ]);go_wp2_with fail;go_ret;exact⟨rfl,s.trans (c.mono s.size)⟩))
  ·have q2:(o==2)=false:=int_ne D;have U:(o != 2)=true:=(by rw[bne,q2];rfl);have ks:=KS _ c;cases sk with
   |true=>
    obtain rfl:y=11:=by rw[<-A.out];simp[codeF,D]
    clear A D;go_wp2_with fail;refine zA (E _) ?_;go_wp2_with fail;refine zA (E _) ?_;go_wp2_with fail;refine(Q _ c).mono ?_;rintro e r ⟨rfl,V,q⟩;have c:Hid (eA l r):=Zh (q▸UG c _);have ks:=KS _ c;clear q;go_wp2_with fail;go_ret;exact⟨rfl,s.trans (c.mono s.size)⟩
   |false=>
    obtain⟨z1,a1⟩:=qA ((o==1));obtain⟨z8,a2⟩:=qA (((d:Int)==8));have v:Hid (y=if(kb&&Z)=true then 10 else if(z1&&z8)=true then 12 else 0):=Zh (by
     rw[<-A.out,<-a1,<-a2];have e:(o=1/\d=8)=(((o==1)&&((d:Int)==8))=true):=by
      simp only[Bool.and_eq_true,beq_iff_eq,eq_iff_iff];omega
     simp only[codeF,D,e];rfl)
    clear A D;go_wp2_with fail;refine zA (E _) ?_;go_wp2_with fail;refine(E _).mono ?_;rintro e w' ⟨rfl,rfl⟩;go_wp2_with fail;refine(Q _ c).mono ?_;rintro e r ⟨rfl,V,q⟩;have c:Hid (eA l r):=Zh (q▸UG c _);have ks:=KS _ c;clear q;go_upto_region 9 with fail;clear ks;cases kb with
    |false=>
     cases z1 with
     |false=>
      obtain rfl:y=0:=by rw[v.out];rfl
      refine wp_region_held_drew (S:=fun w'=>w'.cell? (dA x 0)=some (aA o)/\w'.cell? (dA x 1)=some (bA a)/\w'.cell? (dA x 2)=some (bA b)) (by kernel_rfl) (f _ (WC c)) (fun hHeld=>?_)
      repeat' (first
       |refine Zu 0 51 ?_
       |refine Zu 2 53 ?_
       |refine Zu 8 59 ?_
       |refine Zu 9 50 ?_
       |refine Zj 3 54 ?_
       |refine Zj 4 55 ?_
       |refine Zj 5 56 ?_
       |refine Zj 6 57 ?_
       |refine Zj 7 58 ?_
       |refine Zq [1] ?_
       |refine AllReadyH.cons rfl (fun K hK=>?_) ?_
       |exact AllReadyH.nil
       |(rw[if_pos (by rfl)]
         go_simp;go_at_call 174;refine(t _ (by first|exact c|exact WC c)).mono ?_;rintro e r ⟨rfl,n⟩;have c:Hid (eA l r):=Zh (by first|exact VE n c|exact VE n (WC c));clear n;refine hK _ _ ?_ (fun hHeld=>?_)
         ·exact f _ c
         clear hK K;(try simp only[Zs]))
       |(refine wpAnyH_done (by decide +kernel) ?_ _
         (try simp only[Act.put,List.getElem_toArray,List.getElem_cons_succ,List.getElem_cons_zero,List.setIfInBounds_toArray,List.set_cons_zero,List.set_cons_succ]);go_wp2_with fail;go_ret;exact⟨rfl,s.trans (c.mono s.size)⟩))
     |true=>
      cases z8 with
      |false=>
       obtain rfl:y=0:=by rw[v.out];rfl
       refine wp_region_held_drew (S:=fun w'=>w'.cell? (dA x 0)=some (aA o)/\w'.cell? (dA x 1)=some (bA a)/\w'.cell? (dA x 2)=some (bA b)) (by kernel_rfl) (f _ (WC c)) (fun hHeld=>?_)
       repeat' (first
        |refine Zu 0 51 ?_
        |refine Zu 2 53 ?_
        |refine Zu 8 59 ?_
        |refine Zu 9 50 ?_
        |refine Zj 3 54 ?_
        |refine Zj 4 55 ?_
        |refine Zj 5 56 ?_
        |refine Zj 6 57 ?_
        |refine Zj 7 58 ?_
        |refine Zq [1] ?_
        |refine AllReadyH.cons rfl (fun K hK=>?_) ?_
        |exact AllReadyH.nil
        |(rw[if_pos (by rfl)]
          go_simp;go_at_call 174;refine(t _ (by first|exact c|exact WC c)).mono ?_;rintro e r ⟨rfl,n⟩;have c:Hid (eA l r):=Zh (by first|exact VE n c|exact VE n (WC c));clear n;refine hK _ _ ?_ (fun hHeld=>?_)
          ·exact f _ c
          clear hK K;(try simp only[Zs]))
        |(refine wpAnyH_done (by decide +kernel) ?_ _
          (try simp only[Act.put,List.getElem_toArray,List.getElem_cons_succ,List.getElem_cons_zero,List.setIfInBounds_toArray,List.set_cons_zero,List.set_cons_succ]);go_wp2_with fail;refine(O _ c).mono ?_;rintro e w' ⟨rfl,rfl⟩;go_wp2_with fail;go_ret;exact⟨rfl,s.trans (c.mono s.size)⟩))
      |true=>
       obtain rfl:y=12:=by rw[v.out];rfl
       refine wp_region_held_drew (S:=fun w'=>w'.cell? (dA x 0)=some (aA o)/\w'.cell? (dA x 1)=some (bA a)/\w'.cell? (dA x 2)=some (bA b)) (by kernel_rfl) (f _ (WC c)) (fun hHeld=>?_)
       repeat' (first
        |refine Zu 0 51 ?_
        |refine Zu 2 53 ?_
        |refine Zu 8 59 ?_
        |refine Zu 9 50 ?_
        |refine Zj 3 54 ?_
        |refine Zj 4 55 ?_
        |refine Zj 5 56 ?_
        |refine Zj 6 57 ?_
        |refine Zj 7 58 ?_
        |refine Zq [1] ?_
        |refine AllReadyH.cons rfl (fun K hK=>?_) ?_
        |exact AllReadyH.nil
        |(rw[if_pos (by rfl)]
          go_simp;go_at_call 174;refine(t _ (by first|exact c|exact WC c)).mono ?_;rintro e r ⟨rfl,n⟩;have c:Hid (eA l r):=Zh (by first|exact VE n c|exact VE n (WC c));clear n;refine hK _ _ ?_ (fun hHeld=>?_)
          ·exact f _ c
          clear hK K;(try simp only[Zs]))
        |(refine wpAnyH_done (by decide +kernel) ?_ _
          (try simp only[Act.put,List.getElem_toArray,List.getElem_cons_succ,List.getElem_cons_zero,List.setIfInBounds_toArray,List.set_cons_zero,List.set_cons_succ]);go_wp2_with fail;refine(O _ c).mono ?_;rintro e w' ⟨rfl,rfl⟩;go_wp2_with fail;go_ret;exact⟨rfl,s.trans (c.mono s.size)⟩))
    |true=>
     cases Z with
     |true=>
      obtain rfl:y=10:=by rw[v.out];rfl
      refine wp_region_held_drew (S:=fun w'=>w'.cell? (dA x 0)=some (aA o)/\w'.cell? (dA x 1)=some (bA a)/\w'.cell? (dA x 2)=some (bA b)) (by kernel_rfl) (f _ (WC c)) (fun hHeld=>?_)
      repeat' (first
       |refine Zu 0 51 ?_
       |refine Zu 2 53 ?_
       |refine Zu 3 54 ?_
       |refine Zu 5 56 ?_
       |refine Zu 6 57 ?_
       |refine Zu 8 59 ?_
       |refine Zu 9 50 ?_
       |refine Zq [1] ?_
       |refine Zq [4] ?_
       |refine Zq [7] ?_
       |refine AllReadyH.cons rfl (fun K hK=>?_) ?_
       |exact AllReadyH.nil
       |(rw[if_pos (by rfl)]
         go_simp;go_at_call 174;refine(t _ (by first|exact c|exact WC c)).mono ?_;rintro e r ⟨rfl,n⟩;have c:Hid (eA l r):=Zh (by first|exact VE n c|exact VE n (WC c));clear n;refine hK _ _ ?_ (fun hHeld=>?_)
         ·exact f _ c
         clear hK K;(try simp only[Zs]))
       |(rw[if_pos (by rfl)]
         go_simp;go_at_call 173;refine(Q _ (by first|exact c|exact WC c)).mono ?_;rintro e r ⟨rfl,V,q⟩;have c:Hid (eA l r):=Zh (by first|exact q▸UG c _|exact q▸UG (WC c) _);clear q;refine hK _ _ ?_ (fun hHeld=>?_)
         ·exact f _ c
         clear hK K;(try simp only[Zs]))
       |(rw[if_pos (by rfl)]
         go_simp;go_at_call 175;refine(G _ (by first|exact c|exact WC c)).mono ?_;rintro e r ⟨rfl,n⟩;have c:Hid (eA l r):=Zh (by first|exact VE n c|exact VE n (WC c));clear n;refine hK _ _ ?_ (fun hHeld=>?_)
         ·exact f _ c
         clear hK K;(try simp only[Zs]))
       |(refine wpAnyH_done (by decide +kernel) ?_ _
         (try simp only[Act.put,List.getElem_toArray,List.getElem_cons_succ,List.getElem_cons_zero,List.setIfInBounds_toArray,List.set_cons_zero,List.set_cons_succ]);go_wp2_with fail;go_ret;exact⟨rfl,s.trans (c.mono s.size)⟩))
     |false=>
      cases z1 with
      |false=>
       obtain rfl:y=0:=by rw[v.out];rfl
       refine wp_region_held_drew (S:=fun w'=>w'.cell? (dA x 0)=some (aA o)/\w'.cell? (dA x 1)=some (bA a)/\w'.cell? (dA x 2)=some (bA b)) (by kernel_rfl) (f _ (WC c)) (fun hHeld=>?_)
       repeat' (first
        |refine Zu 0 51 ?_
        |refine Zu 2 53 ?_
        |refine Zu 3 54 ?_
        |refine Zu 5 56 ?_
        |refine Zu 6 57 ?_
        |refine Zu 8 59 ?_
        |refine Zu 9 50 ?_
        |refine Zq [1] ?_
        |refine Zq [4] ?_
        |refine Zq [7] ?_
        |refine AllReadyH.cons rfl (fun K hK=>?_) ?_
        |exact AllReadyH.nil
        |(rw[if_pos (by rfl)]
          go_simp;go_at_call 174;refine(t _ (by first|exact c|exact WC c)).mono ?_;rintro e r ⟨rfl,n⟩;have c:Hid (eA l r):=Zh (by first|exact VE n c|exact VE n (WC c));clear n;refine hK _ _ ?_ (fun hHeld=>?_)
          ·exact f _ c
          clear hK K;(try simp only[Zs]))
        |(rw[if_pos (by rfl)]
          go_simp;go_at_call 173;refine(Q _ (by first|exact c|exact WC c)).mono ?_;rintro e r ⟨rfl,V,q⟩;have c:Hid (eA l r):=Zh (by first|exact q▸UG c _|exact q▸UG (WC c) _);clear q;refine hK _ _ ?_ (fun hHeld=>?_)
          ·exact f _ c
          clear hK K;(try simp only[Zs]))
        |(rw[if_pos (by rfl)]
          go_simp;go_at_call 175;refine(G _ (by first|exact c|exact WC c)).mono ?_;rintro e r ⟨rfl,n⟩;have c:Hid (eA l r):=Zh (by first|exact VE n c|exact VE n (WC c));clear n;refine hK _ _ ?_ (fun hHeld=>?_)
          ·exact f _ c
          clear hK K;(try simp only[Zs]))
        |(refine wpAnyH_done (by decide +kernel) ?_ _
          (try simp only[Act.put,List.getElem_toArray,List.getElem_cons_succ,List.getElem_cons_zero,List.setIfInBounds_toArray,List.set_cons_zero,List.set_cons_succ]);go_wp2_with fail;go_ret;exact⟨rfl,s.trans (c.mono s.size)⟩))
      |true=>
       cases z8 with
       |false=>
        obtain rfl:y=0:=by rw[v.out];rfl
        refine wp_region_held_drew (S:=fun w'=>w'.cell? (dA x 0)=some (aA o)/\w'.cell? (dA x 1)=some (bA a)/\w'.cell? (dA x 2)=some (bA b)) (by kernel_rfl) (f _ (WC c)) (fun hHeld=>?_)
        repeat' (first
         |refine Zu 0 51 ?_
         |refine Zu 2 53 ?_
         |refine Zu 3 54 ?_
         |refine Zu 5 56 ?_
         |refine Zu 6 57 ?_
         |refine Zu 8 59 ?_
         |refine Zu 9 50 ?_
         |refine Zq [1] ?_
         |refine Zq [4] ?_
         |refine Zq [7] ?_
         |refine AllReadyH.cons rfl (fun K hK=>?_) ?_
         |exact AllReadyH.nil
         |(rw[if_pos (by rfl)]
           go_simp;go_at_call 174;refine(t _ (by first|exact c|exact WC c)).mono ?_;rintro e r ⟨rfl,n⟩;have c:Hid (eA l r):=Zh (by first|exact VE n c|exact VE n (WC c));clear n;refine hK _ _ ?_ (fun hHeld=>?_)
           ·exact f _ c
           clear hK K;(try simp only[Zs]))
         |(rw[if_pos (by rfl)]
           go_simp;go_at_call 173;refine(Q _ (by first|exact c|exact WC c)).mono ?_;rintro e r ⟨rfl,V,q⟩;have c:Hid (eA l r):=Zh (by first|exact q▸UG c _|exact q▸UG (WC c) _);clear q;refine hK _ _ ?_ (fun hHeld=>?_)
           ·exact f _ c
           clear hK K;(try simp only[Zs]))
         |(rw[if_pos (by rfl)]
           go_simp;go_at_call 175;refine(G _ (by first|exact c|exact WC c)).mono ?_;rintro e r ⟨rfl,n⟩;have c:Hid (eA l r):=Zh (by first|exact VE n c|exact VE n (WC c));clear n;refine hK _ _ ?_ (fun hHeld=>?_)
           ·exact f _ c
           clear hK K;(try simp only[Zs]))
         |(refine wpAnyH_done (by decide +kernel) ?_ _
           (try simp only[Act.put,List.getElem_toArray,List.getElem_cons_succ,List.getElem_cons_zero,List.setIfInBounds_toArray,List.set_cons_zero,List.set_cons_succ]);go_wp2_with fail;refine(O _ c).mono ?_;rintro e w' ⟨rfl,rfl⟩;go_wp2_with fail;go_ret;exact⟨rfl,s.trans (c.mono s.size)⟩))
       |true=>
        obtain rfl:y=12:=by rw[v.out];rfl
        refine wp_region_held_drew (S:=fun w'=>w'.cell? (dA x 0)=some (aA o)/\w'.cell? (dA x 1)=some (bA a)/\w'.cell? (dA x 2)=some (bA b)) (by kernel_rfl) (f _ (WC c)) (fun hHeld=>?_)
        repeat' (first
         |refine Zu 0 51 ?_
         |refine Zu 2 53 ?_
         |refine Zu 3 54 ?_
         |refine Zu 5 56 ?_
         |refine Zu 6 57 ?_
         |refine Zu 8 59 ?_
         |refine Zu 9 50 ?_
         |refine Zq [1] ?_
         |refine Zq [4] ?_
         |refine Zq [7] ?_
         |refine AllReadyH.cons rfl (fun K hK=>?_) ?_
         |exact AllReadyH.nil
         |(rw[if_pos (by rfl)]
           go_simp;go_at_call 174;refine(t _ (by first|exact c|exact WC c)).mono ?_;rintro e r ⟨rfl,n⟩;have c:Hid (eA l r):=Zh (by first|exact VE n c|exact VE n (WC c));clear n;refine hK _ _ ?_ (fun hHeld=>?_)
           ·exact f _ c
           clear hK K;(try simp only[Zs]))
         |(rw[if_pos (by rfl)]
           go_simp;go_at_call 173;refine(Q _ (by first|exact c|exact WC c)).mono ?_;rintro e r ⟨rfl,V,q⟩;have c:Hid (eA l r):=Zh (by first|exact q▸UG c _|exact q▸UG (WC c) _);clear q;refine hK _ _ ?_ (fun hHeld=>?_)
           ·exact f _ c
           clear hK K;(try simp only[Zs]))
         |(rw[if_pos (by rfl)]
           go_simp;go_at_call 175;refine(G _ (by first|exact c|exact WC c)).mono ?_;rintro e r ⟨rfl,n⟩;have c:Hid (eA l r):=Zh (by first|exact VE n c|exact VE n (WC c));clear n;refine hK _ _ ?_ (fun hHeld=>?_)
           ·exact f _ c
           clear hK K;(try simp only[Zs]))
         |(refine wpAnyH_done (by decide +kernel) ?_ _
           (try simp only[Act.put,List.getElem_toArray,List.getElem_cons_succ,List.getElem_cons_zero,List.setIfInBounds_toArray,List.set_cons_zero,List.set_cons_succ]);go_wp2_with fail;refine zA (O _ c) ?_;go_wp2_with fail;go_ret;exact⟨rfl,s.trans (c.mono s.size)⟩))
structure Fr(w:World)(B p k g c d:Nat)(A:jA)(n c':Nat)(tl:Bool)(ps:List Pl)(td:List wA)(P:List (List In)):Prop where
 base:B<=p
 len:P.length=d+1
 d8:d<=8
 mA:w.heap[p]? = some (.cells #[.slice (some (dA g 0)) (d+1) c,.bool tl,.slice A n c'] 210 (0,0))
 own:EH.Own w B (.slice (some (dA g 0)) (d+1) c) ps
 told:cI.Own w B (.slice A n c') td
 pl:ps.length=d+1
 nd:(ps.map Pl.m).Nodup
 at_:∀i (h:i<ps.length) (h2:i<P.length),B<=ps[i].m/\ps[i].sk=fI P[i]/\∃s,uC prog 9 w ps[i].m k s (gG P[i])
 bJ:td.length=n
 nk:n<=k
theorem aJ.fr{w:World}{B p k:Nat}{P:List (List In)}{nm:Option (List (KA))}(h:aJ w B p k P nm):
 ∃g c d A n c' ps td,Fr w B p k g c d A n c' nm.isSome ps td P/\td.map (·.toList)=nm.getD []:=by
 obtain⟨g,c,d,ps,A,n,c',td,f,i,j,l,m,o,q,r,s,a,b,e⟩:=h;exact⟨g,c,d,A,n,c',ps,td,⟨f,i,j,l,m,o,q,r,s,b,e⟩,a⟩
section
variable{w w':World}{B p k g c d:Nat}{A:jA}{n c':Nat}{tl:Bool}{ps:List Pl}{td:List wA}{P:List (List In)}
theorem Fr.is{nm:Option (List (KA))}(h:Fr w B p k g c d A n c' tl ps td P)(ht:tl=nm.isSome)(hn:td.map (·.toList)=nm.getD []):aJ w B p k P nm:=by
 subst ht;exact⟨g,c,d,ps,A,n,c',td,h.base,h.len,h.d8,h.mA,h.own,h.told,h.pl,h.nd,h.at_,hn,h.bJ,h.nk⟩
theorem Fr.lt(h:Fr w B p k g c d A n c' tl ps td P):p<w.heap.size:=FA h.mA
theorem Fr.size(h:Fr w B p k g c d A n c' tl ps td P):B<=w.heap.size:=by have:=h.base;have:=h.lt;omega
theorem Fr.c0(h:Fr w B p k g c d A n c' tl ps td P):w.cell? (dA p 0)=some (.slice (some (dA g 0)) (d+1) c):=cell_of_row w p 0 _ _ (0,0) h.mA
theorem Fr.c1(h:Fr w B p k g c d A n c' tl ps td P):w.cell? (dA p 1)=some (.bool tl):=cell_of_row w p 1 _ _ (0,0) h.mA
theorem Fr.c2(h:Fr w B p k g c d A n c' tl ps td P):w.cell? (dA p 2)=some (.slice A n c'):=cell_of_row w p 2 _ _ (0,0) h.mA
theorem Fr.frozen(h:Fr w B p k g c d A n c' tl ps td P)(i:Nat):w.frozen? (dA p i)=false:=by simp[World.frozen?,h.mA]
theorem Fr.below(h:Fr w B p k g c d A n c' tl ps td P)(b:eA w w'):Fr w' B p k g c d A n c' tl ps td P:=
 ⟨h.base,h.len,h.d8,(b.block p h.lt).trans h.mA,h.own.below b Zl,h.told.below b Zl,h.pl,h.nd,fun i e f=>by
  obtain⟨j,l,s,a⟩:=h.at_ i e f;exact⟨j,l,s,a.below b a.lt⟩,h.bJ,h.nk⟩
theorem Fr.mono(h:Fr w B p k g c d A n c' tl ps td P){k':Nat}(hk:k<=k'):Fr w B p k' g c d A n c' tl ps td P:=
 ⟨h.base,h.len,h.d8,h.mA,h.own,h.told,h.pl,h.nd,fun i a b=>by
  obtain⟨e,f,s,j⟩:=h.at_ i a b;exact⟨e,f,s,j.mono hk⟩,h.bJ,by have:=h.nk;omega⟩
theorem Fr.qL(h:Fr w B p k g c d A n c' tl ps td P):g≠p:=by
 rintro rfl;obtain⟨x,hx⟩:=h.own.ty (g:=g) rfl;exact RA hx h.mA nA rfl
theorem Fr.DQ(h:Fr w B p k g c d A n c' tl ps td P){j:Nat}(hj:(Value.slice A n c').ownBlock=some j):j≠p:=by
 rintro rfl;obtain⟨x,hx⟩:=h.told.ty hj;exact RA hx h.mA nA rfl
theorem Fr.UI(h:Fr w B p k g c d A n c' tl ps td P){i:Nat}(h1:i<ps.length):ps[i].m≠p/\ps[i].m≠g/\∀j,(Value.slice A n c').ownBlock=some j->ps[i].m≠j:=by
 obtain⟨_,_,s,M⟩:=h.at_ i h1 (by have:=h.len;have:=h.pl;omega);obtain⟨e,f,a⟩:=M.mA;refine⟨kK a h.mA,?_,fun j b=>?_⟩
 ·obtain⟨x,hx⟩:=h.own.ty (g:=g) rfl;exact kK a hx
 ·obtain⟨x,hx⟩:=h.told.ty b;exact kK a hx
theorem Fr.eZ(h:Fr w B p k g c d A n c' tl ps td P)(hb:∀i (h:i<ps.length),w'.heap[ps[i].m]? = w.heap[ps[i].m]?):
 ∀i (h:i<ps.length) (h2:i<P.length),B<=ps[i].m/\ps[i].sk=fI P[i]/\∃s,uC prog 9 w' ps[i].m k s (gG P[i]):=fun i a h2=>by
 obtain⟨b,e,s,f⟩:=h.at_ i a h2;exact⟨b,e,s,f.kept (hb i a)⟩
theorem Fr.tell{a:wA}{A2:jA}{n2 c2:Nat}(h:Fr w B p k g c d A n c' tl ps td P)(hg:w.grownBy w' (Value.slice A n c').ownBlock)(ho:cI.Own w' B (.slice A2 n2 c2) (td++[a]))(hn2:n2=n+1):
 Fr (w'.setCell (dA p 2) (.slice A2 n2 c2)) B p (k+1) g c d A2 n2 c2 tl ps (td++[a]) P/\Below B w (w'.setCell (dA p 2) (.slice A2 n2 c2)):=by
 have o:gA (fun j=>(Value.slice A n c').ownBlock=some j) w w':=gA.sG hg (fun i q _=>q);have r:w'.heap[p]? = _:=(o.block p h.lt (fun e=>h.DQ e rfl)).trans h.mA;have b:gA (fun j=>(Value.slice A n c').ownBlock=some j\/j=p) w (w'.setCell (dA p 2) (.slice A2 n2 c2)):=gA.setCell (o.mono fun _ _ e=> .inl e) (fun _=> .inr rfl) _;have f:(Value.slice A n c').ownBlock≠some g:=fun e=>by
  obtain⟨x,hx⟩:=h.own.ty (g:=g) rfl;obtain⟨y,t⟩:=h.told.ty e;exact RA hx t nA rfl
 have u:=h.size;refine⟨(Fr.mk h.base h.len h.d8 (heap_set r 2 _) ?_ ?_ h.pl h.nd ?_ (by rw[List.length_append,h.bJ,hn2];rfl) (uA h.nk)),?_⟩
 ·exact h.own.but b fun j l e=>by
   have:j=g:=(Option.some.inj l).symm;subst this;rcases e with e|e
   ·exact f e
   ·exact h.qL e
 ·exact ho.sB fun j l=>Below.heap_setCell _ _ _ _ (by
   rintro rfl;obtain⟨x,hx⟩:=ho.ty l;exact RA hx r nA rfl)
 ·have:=(h.mono (Nat.le_succ k)).eZ (w':=w'.setCell (dA p 2) (.slice A2 n2 c2)) (fun i m=>by
   obtain⟨_,_,s,M⟩:=h.at_ i m (by have:=h.len;have:=h.pl;omega);refine b.block _ M.lt ?_;rintro(e|e)
   ·exact(h.UI m).2.2 _ e rfl
   ·exact(h.UI m).1 e)
  exact this
 ·refine b.AB (fun i q e=>?_) u;rcases e with e|rfl
  ·exact(h.told.lt e).1
  ·exact h.base
theorem Fr.AR(h:Fr w B p k g c d A n c' tl ps td P)(t2:Bool):
 Fr ((w.setCell (dA p 1) (.bool t2)).setCell (dA p 2) (vA)) B p k g c d none 0 0 t2 ps [] P/\Below B w ((w.setCell (dA p 1) (.bool t2)).setCell (dA p 2) (vA)):=by
 have a:gA (fun j=>j=p) w ((w.setCell (dA p 1) (.bool t2)).setCell (dA p 2) (vA)):=gA.setCell (p:=(dA p 2)) (gA.setCell (p:=(dA p 1)) (gA.refl (fun j=>j=p) w) (fun _=>rfl) _) (fun _=>rfl) _;refine⟨(Fr.mk h.base h.len h.d8 (heap_set (heap_set h.mA 1 _) 2 _) ?_ (Kind.Own.nil _ _ _) h.pl h.nd ?_ rfl (Nat.zero_le _)),a.AB (fun i _ e=>by subst e;exact h.base) h.size⟩
 ·exact h.own.but a fun j f e=>by
   have:j=g:=(Option.some.inj f).symm;subst this;exact h.qL e
 ·exact h.eZ (fun i b=>by
   obtain⟨_,_,s,M⟩:=h.at_ i b (by have:=h.len;have:=h.pl;omega);exact a.block _ M.lt (h.UI b).1)
theorem im{l:List Nat}(h:l.Nodup){i j:Nat}(hi:i<l.length)(hj:j<l.length)(e:l[i]=l[j]):i=j:=by
 rcases Nat.lt_trichotomy i j with h1|h1|h1
 ·exact absurd e (List.pairwise_iff_getElem.1 h i j hi hj h1)
 ·exact h1
 ·exact absurd e.symm (List.pairwise_iff_getElem.1 h j i hj hi h1)
theorem jm{α:Type}{l:List α}{d:Nat}(h:l.length=d+1)(y:α):l.dropLast++[y]=l.set d y:=by
 refine List.ext_getElem (by simp[h]) fun i b a=>?_
 rw[List.getElem_set];have c:i<d+1:=(by simpa[h] using a);by_cases e:d=i
 ·subst e;rw[if_pos rfl,List.getElem_append_right (by simp[h])];simp[h]
 ·rw[if_neg e,List.getElem_append_left (by simp[h];omega),List.getElem_dropLast]
def BH(P:List (List In))(x:In):List (List In):=P.dropLast++[oF P++[x]]
theorem YJ(h:P.length=d+1)(x:In):(BH P x).length=d+1:=by simp[BH,h]
theorem gU(h:P.length=d+1)(x:In){i:Nat}(h2:i<(BH P x).length):(BH P x)[i]=if h3:d=i then P[i]'cA++[x] else P[i]'(by rw[YJ h] at h2;omega):=by
 have e:BH P x=P.set d (oF P++[x]):=(by rw[BH];exact jm h _);rw[List.getElem_of_eq e,List.getElem_set];by_cases a:d=i
 ·subst a;rw[if_pos rfl,dif_pos rfl,iQ h]
 ·rw[if_neg a,dif_neg a]
theorem V4{L:List In}{x:In}(h:x.op≠7):fI (L++[x])=fI L:=by
 unfold fI;rw[List.any_append,List.any_cons,List.any_nil,Bool.or_false,decide_eq_false h,Bool.or_false]
theorem Di{L:List In}{x:In}(h:x.op=7):fI (L++[x])=true:=by
 unfold fI;rw[List.any_append,List.any_cons,decide_eq_true h];simp
theorem Fr.hU{x:In}(h:Fr w B p k g c d A n c' tl ps td P)(hk:pE x=false)(h7:x.op≠7):Fr w B p k g c d A n c' tl ps td (BH P x):=by
 refine Fr.mk h.base (YJ h.len x) h.d8 h.mA h.own h.told h.pl h.nd (fun i j a=>?_) h.bJ h.nk;obtain⟨b,e,s,f⟩:=h.at_ i j (by rw[YJ h.len] at a;have:=h.len;omega);rw[gU h.len x a];split
 ·rw[V4 h7,cZ hk];exact⟨b,e,s,f⟩
 ·exact⟨b,e,s,f⟩
theorem Fr.map(h:Fr w B p k g c d A n c' tl ps td P):∃s,uC prog 9 w (ps[d]'(uA h.pl)).m k s (gG (oF P)):=by
 obtain⟨_,_,s,M⟩:=h.at_ d (uA h.pl) (uA h.len);rw[iQ h.len];exact⟨s,M⟩
theorem Fr.za{x:In}{s':Nat}(h:Fr w B p k g c d A n c' tl ps td P)(h7:x.op≠7)(hg:w.grownBy w' (some (ps[d]'(uA h.pl)).m))(hm:uC prog 9 w' (ps[d]'(uA h.pl)).m (k+1) s' (gG (oF P++[x]))):
 Fr w' B p (k+1) g c d A n c' tl ps td (BH P x)/\Below B w w':=by
 have a:d<ps.length:=(uA h.pl);have b:gA (fun j=>j=ps[d].m) w w':=gA.sG hg (fun i v _=>(Option.some.inj v).symm);obtain⟨y,_,_,_⟩:=h.at_ d a (uA h.len);refine⟨Fr.mk h.base (YJ h.len x) h.d8 ((b.block p h.lt (fun e=>(h.UI a).1 e.symm)).trans h.mA) (h.own.but b fun j f e=>?_) (h.told.but b fun j f e=>(h.UI a).2.2 j f e.symm) h.pl h.nd (fun i l q=>?_) h.bJ (uA h.nk),b.AB (fun i _ e=>by subst e;exact y) h.size⟩
 ·have:j=g:=(Option.some.inj f).symm;subst this;exact(h.UI a).2.1 e.symm
 ·obtain⟨r,t,s,u⟩:=h.at_ i l (by rw[YJ h.len] at q;have:=h.len;omega);rw[gU h.len x q];split
  ·rename_i e;subst e;rw[iQ h.len] at hm;rw[V4 h7];exact⟨r,t,s',hm⟩
  ·rename_i e;refine⟨r,t,s,(u.mono (Nat.le_succ k)).kept (b.block _ u.lt ?_)⟩;intro z;have o:=h.nd;refine e ?_;have C:(ps.map Pl.m)[i]'(by simpa using l)=(ps.map Pl.m)[d]'(by simpa using a):=(by simpa using z);exact(im o (by simpa using l) (by simpa using a) C).symm
theorem mW:∀(l:List Pl) (i:Nat) (h:i<l.length),EH.cells (l.set i ⟨l[i].m,true⟩)=(EH.cells l).set (i*2+1) (.bool true)
 |[],i,h=>by simp at h
 |a:: l,0,_=>by simp[Kind.cells,EH]
 |a:: l,i+1,h=>by
  have ih:=mW l i (by simpa using h);have e:∀(a:Pl) (l:List Pl),EH.cells (a:: l)= .map (some a.m):: .bool a.sk:: EH.cells l:=fun a l=>rfl
  rw[List.set_cons_succ,e,e,show(i+1)*2+1=(i*2+1)+1+1 by omega,List.set_cons_succ,List.set_cons_succ,<-ih];rfl
theorem Fr.skip{x:In}(h:Fr w B p k g c d A n c' tl ps td P)(h7:x.op=7):
 Fr (w.setCell ⟨g,d*2+1,none⟩ (.bool true)) B p (k+1) g c d A n c' tl (ps.set d ⟨(ps[d]'(uA h.pl)).m,true⟩) td (BH P x)/\Below B w (w.setCell ⟨g,d*2+1,none⟩ (.bool true)):=by
 have u:d<ps.length:=(uA h.pl);have b:gA (fun j=>j=g) w (w.setCell ⟨g,d*2+1,none⟩ (.bool true)):=gA.setCell (p:=⟨g,d*2+1,none⟩) (gA.refl (fun j=>j=g) w) (fun _=>rfl) _;have v:pE x=false:=(by simp[pE,gD,h7]);have l:B<=g:=(h.own.lt (g:=g) rfl).1;have z:(ps.set d ⟨ps[d].m,true⟩).map Pl.m=ps.map Pl.m:=by
  refine List.ext_getElem DA fun i o f=>?_
  rw[List.getElem_map,List.getElem_map,List.getElem_set];split
  ·rename_i e;subst e;rfl
  ·rfl
 refine⟨Fr.mk h.base (YJ h.len x) h.d8 ((b.block p h.lt (fun e=>h.qL e.symm)).trans h.mA) ?_ (h.told.but b fun j C e=>?_) (by rw[List.length_set];exact h.pl) (by rw[z];exact h.nd) (fun i o f=>?_) h.bJ (uA h.nk),b.AB (fun i _ e=>by subst e;exact l) h.size⟩
 ·exact h.own.Es h.pl (by rw[List.length_set]) (mW ps d u)
 ·subst e;obtain⟨x,hx⟩:=h.own.ty (g:=j) rfl;obtain⟨y,D⟩:=h.told.ty C;exact RA hx D nA rfl
 ·have a:i<ps.length:=(by rw[List.length_set] at o;exact o);obtain⟨q,E,s,r⟩:=h.at_ i a (by rw[YJ h.len] at f;have:=h.len;omega);have t:uC prog 9 (w.setCell ⟨g,d*2+1,none⟩ (.bool true)) ps[i].m (k+1) s (gG (P[i]'(by rw[YJ h.len] at f;have:=h.len;omega))):=(r.mono (Nat.le_succ k)).kept (b.block _ r.lt (h.UI a).2.1);rw[gU h.len x f];by_cases e:d=i
  ·subst e;rw[dif_pos rfl,Di h7,cZ v,List.getElem_set_self];exact⟨q,rfl,s,t⟩
  ·rw[dif_neg e,List.getElem_set_ne e];exact⟨q,E,s,t⟩
theorem Fr.push{g2 c2 n2 m:Nat}(h:Fr w B p k g c d A n c' tl ps td P)(hd7:d<=7)(hg:w.grownBy w' (some g))(ho:EH.Own w' B (.slice (some (dA g2 0)) n2 c2) (ps++[⟨m,false⟩]))(hn2:n2=d+1+1)
 (hm:uC prog 9 w m 0 0 (fun _=>none)) (hmB:B<=m) (hnew:∀i (h:i<ps.length),ps[i].m≠m):
 Fr (w'.setCell (dA p 0) (.slice (some (dA g2 0)) n2 c2)) B p k g2 c2 (d+1) A n c' tl (ps++[⟨m,false⟩]) td (P++[[]])/\Below B w (w'.setCell (dA p 0) (.slice (some (dA g2 0)) n2 c2)):=by
 subst hn2;have z:gA (fun j=>j=g) w w':=gA.sG hg (fun i f _=>(Option.some.inj f).symm);have C:w'.heap[p]? = _:=(z.block p h.lt (fun e=>h.qL e.symm)).trans h.mA;have r:gA (fun j=>j=g\/j=p) w (w'.setCell (dA p 0) (.slice (some (dA g2 0)) (d+1+1) c2)):=gA.setCell (z.mono fun _ _ e=> .inl e) (fun _=> .inr rfl) _;have u:B<=g:=(h.own.lt (g:=g) rfl).1;have l:m≠p/\m≠g:=by
  obtain⟨K,L,q⟩:=hm.mA;refine⟨kK q h.mA,?_⟩;obtain⟨x,hx⟩:=h.own.ty (g:=g) rfl;exact kK q hx
 refine⟨Fr.mk h.base (by rw[List.length_append,h.len];rfl) cA (heap_set C 0 _) (ho.sB fun j t=>?_) (h.told.but r fun j t e=>?_) (by rw[List.length_append,h.pl];rfl) ?_ (fun i D M=>?_) h.bJ h.nk,r.AB (fun i _ e=>?_) h.size⟩
 ·refine Below.heap_setCell _ _ _ _ ?_;rintro rfl;obtain⟨x,hx⟩:=ho.ty t;exact RA hx C nA rfl
 ·rcases e with e|e
  ·subst e;obtain⟨x,hx⟩:=h.own.ty (g:=j) rfl;obtain⟨y,F⟩:=h.told.ty t;exact RA hx F nA rfl
  ·exact h.DQ t e
 ·rw[List.map_append,List.nodup_append];refine⟨h.nd,by simp,fun a G b q=>?_⟩;obtain⟨i,f,rfl⟩:=List.mem_iff_getElem.1 G;simp only[List.map_cons,List.map_nil,List.mem_singleton] at q;subst q;rw[List.getElem_map];exact hnew i (by simpa using f)
 ·by_cases f:i<ps.length
  ·have o:i<P.length:=(by have:=h.len;have:=h.pl;omega);obtain⟨H,I,s,E⟩:=h.at_ i f o;rw[List.getElem_append_left f,List.getElem_append_left o];refine⟨H,I,s,E.kept (r.block _ E.lt ?_)⟩;rintro(e|e)
   ·exact(h.UI f).2.1 e
   ·exact(h.UI f).1 e
  ·have o:¬i<P.length:=(by have:=h.len;have:=h.pl;omega);rw[List.getElem_append_right cA,List.getElem_append_right cA];have J:i-ps.length=0:=(by rw[List.length_append] at D;simp only[List.length_cons,List.length_nil] at D;omega);have v:i-P.length=0:=(by have:=h.len;have:=h.pl;omega);simp only[J,v,List.getElem_cons_zero];refine⟨hmB,rfl,0,?_⟩;rw[bZ];exact(hm.mono (Nat.zero_le k)).kept (r.block _ hm.lt (fun e=>e.elim l.2 l.1))
 ·rcases e with rfl|rfl
  ·exact u
  ·exact h.base
theorem Y4{α:Type}{Pr:Program}{K:Kind Pr α}{w:World}{B:Nat}{v:Value}{l:List α}(h:K.Own w B v l)(hl:0<l.length):∃g n c,v= .slice (some (dA g 0)) n c/\l.length=n:=by
 rcases h.form with⟨_,rfl⟩|⟨g,c,_,hv,_⟩
 ·simp at hl
 ·exact⟨g,_,c,hv,rfl⟩
theorem Fr.cap(h:Fr w B p k g c d A n c' tl ps td P):d+1<=c:=by
 obtain⟨e,f,i,a,j,b,_,_,_⟩:=h.own.slice;injection a with h1 h2 h3;subst h2;subst h3;exact b
theorem Fr.place(h:Fr w B p k g c d A n c' tl ps td P):w.cell? ⟨g,d*2,none⟩=some (.map (some (ps[d]'(uA h.pl)).m))/\w.cell? ⟨g,d*2+1,none⟩=some (.bool (ps[d]'(uA h.pl)).sk)/\w.frozen? ⟨g,d*2+1,none⟩=false:=by
 obtain⟨a,b,_⟩:=yW h.own (i:=d) (uA h.pl);obtain⟨x,hx⟩:=h.own.ty (g:=g) rfl;exact⟨a,b,by simp[World.frozen?,hx]⟩
theorem Fr.pop{e:Nat}(h:Fr w B p k g c e A n c' tl ps td P)(he:e=d+1):
 Fr (w.setCell (dA p 0) (.slice (some (dA g 0)) e c)) B p k g c d A n c' tl (ps.take e) td P.dropLast/\Below B w (w.setCell (dA p 0) (.slice (some (dA g 0)) e c)):=by
 subst he;have a:gA (fun j=>j=p) w (w.setCell (dA p 0) (.slice (some (dA g 0)) (d+1) c)):=gA.setCell (p:=(dA p 0)) (gA.refl (fun j=>j=p) w) (fun _=>rfl) _;have o:=h.pl;have b:=h.len;refine⟨Fr.mk h.base (by rw[List.length_dropLast,b];rfl) (uA h.d8) (heap_set h.mA 0 _) ((G9 h.own cA).but a fun j f e=>?_) (h.told.but a fun j f e=>h.DQ f e) (by rw[List.length_take];omega) (by rw[List.map_take];exact(List.take_sublist _ _).nodup h.nd) (fun i q u=>?_) h.bJ h.nk,a.AB (fun i _ e=>by subst e;exact h.base) h.size⟩
 ·have:j=g:=(Option.some.inj f).symm;subst this;exact h.qL e
 ·have l:i<ps.length:=(by rw[List.length_take] at q;omega);obtain⟨r,t,s,m⟩:=h.at_ i l cA;rw[List.getElem_take,List.getElem_dropLast];exact⟨r,t,s,m.kept (a.block _ m.lt (h.UI l).1)⟩
end
end P13
namespace P12
open Go.RowKit Kd P4 P5 P11
theorem IK{w w9:World}{C B:Nat}{A:jA}{l:KA}(h:kB.pA w9 C A l)(hb:Below B w w9)(hC:C<=B):kB.pA w C A l:=h.sB fun b _ a=>(hb.block b cA).symm
def tK(w:World)(C:Nat)(p:Option (In×KA))(e:Ending)(w':World):Prop:=
 ((p=none/\∃i:In,e= .returned (.tuple #[.agg #[aA i.op,bA i.a,bA i.b],vA,.bool false]))\/
   ∃(i:In) (r:KA) (A:jA) (n c:Nat),p=some (i,r)/\e= .returned (.tuple #[.agg #[aA i.op,bA i.a,bA i.b],.slice A n c,.bool true])/\r.length=n/\n<=c/\c<=maxLen/\kB.pA w C A r/\i.a.size<=255/\i.b.size<=255)/\eA w w'
theorem Ba{b t r:KA}(h:bF b=some (t,r)):r.length<=b.length:=by
 have:=congrArg List.length (qJ h).1;rw[List.length_append] at this;omega
theorem Pp(x:UInt8)(r:KA)(A:jA)(n c C:Nat)(w:World)(hh:kB.pA w C A (x:: r))(hC:C<=w.heap.size)(hn:r.length+1=n)(zC:n<=c)(hl:n<=100000)(cC:c<=maxLen):fA 124 #[.slice A n c] w (tK w C (sD x r)):=by
 have KL:=Zh hn;obtain⟨b,o,rfl,hb,g0⟩:=qM hh (k:=0) DA;have HD:Hid (kB.pA w C (some ⟨b,o+1,none⟩) r):=Zh (by
  have:=hh.drop 1;simpa[kB] using this)
 have g0:w.cell? ⟨b,o+0,none⟩=some (.int .u8 (x.toNat:Int)):=g0;have B0:Hid (eA w (w.alloc (.cells #[aA 0,tA,tA] 110))):=Zh (Zb _ _);have Z0:Hid (XB (w.alloc (.cells #[aA 0,tA,tA] 110)) w.heap.size zX):=Zh (XB.new w zX);have a3:IntKind.i64.wrap (x.toNat:Int)=(x.toNat:Int):=by
  have:=x.toNat_lt;simp[IntKind.wrap,IntKind.bits,IntKind.signed];omega
 have a5:c<=9223372036854775807:=(by unfold maxLen at cC;omega);have a4:b<w.heap.size:=cA;have h0:0<n:=cA;have U:=Zh hC;clear hh hn cC hC;go_enter func124,ntmps124;go_upto_region 1 with fail;have g0:=(B0.cell (p:=⟨b,o+0,none⟩) a4).trans g0;simp only[Nat.add_zero] at g0;generalize w.alloc (.cells #[aA 0,tA,tA] 110)=W at B0 Z0 g0|-;have i0:(0:Int)<(n:Int):=cA;go_upto_region 2 with fail;have F:Hid (XB (W.alloc (.cells #[aA (x.toNat:Int),tA,tA] 110)) W.heap.size ⟨x.toNat,⟨#[]⟩,⟨#[]⟩⟩):=Zh (XB.new W ⟨x.toNat,⟨#[]⟩,⟨#[]⟩⟩);have BA:Hid (eA W (W.alloc (.cells #[aA (x.toNat:Int),tA,tA] 110))):=Zh (Zb _ _);generalize W.alloc (.cells #[aA (x.toNat:Int),tA,tA] 110)=W2 at F BA|-;have G:=Zh (Z0.below BA Z0.lt);have I:=Zh (B0.trans (BA.mono B0.size));have hg:w.heap.size<W.heap.size:=Z0.lt;generalize W.heap.size=g at F hg|-;clear g0 Z0 B0 BA a3;have a6:g≠w.heap.size:=cA;have i1:(1:Int)<=(n:Int):=cA;have i2:(n:Int)<=(c:Int):=cA;by_cases a2:c=1
 ·subst a2;obtain rfl:n=1:=cA
  have hr:r=[]:=List.eq_nil_of_length_eq_zero (uA KL.out);have HR:Hid (kB.pA w C (some (dA b o)) r):=Zh (by rw[hr];exact Kind.pA.nil _ _ _);have RN:Hid (r.length=0):=Zh (by rw[hr];rfl);have X:(0:Nat)<=maxLen:=cA;have Y:(0:Nat)<=0:=cA;have a0:(0:Nat)<=100000:=cA;clear hr HD;have G1:Hid (∀Z,eA w Z->fA 144 #[.slice (some (dA b o)) (0) (0)] Z (JV Z C (bF r))):=Zh (fun Z h=>jP r _ _ _ C Z (HR.below h U) (Nat.le_trans U h.size) RN Y a0 X);have D:=F.c0;simp only at D;go_wp2_with fail;refine zA (DX (x.toNat:Int) W2) ?_;clear D;have H:=G1 W2 I;clear G1;rcases sN (x.toNat:Int) with e|e|e
  ·rw[e];have J:Hid (sD x r=some (⟨x.toNat,⟨#[]⟩,⟨#[]⟩⟩,r)):=Zh (by unfold sD;rw[if_pos e];rfl);have D:=F.c0;have d:=F.c1;have f:=F.c2;simp only at D d f;have z0:=G.c0;have y:=G.c1;have z:=G.c2;simp only[zX] at z0 y z;have zf:=G.fr;have j:w.heap.size<W2.heap.size:=G.lt;go_wp2_with fail;refine bodyPost_ret (v:=.tuple #[.agg #[aA (x.toNat:Int),bA (⟨#[]⟩),bA (⟨#[]⟩)],.slice (some (dA b o)) (0) (0),.bool true]) (by simp[results,results124,go_sem,z0,y,z,j]) rfl ⟨.inr ⟨_,r,_,_,_,J,rfl,RN,Y,X,HR,by show(⟨#[]⟩:wA).size<=255;decide,by show(⟨#[]⟩:wA).size<=255;decide⟩,KG I⟩
  ·rw[e];cases hc:bF r with
   |none=>
    have J:Hid (sD x r=none):=Zh (by unfold sD;rw[if_neg cA,hc]);rw[hc] at H;clear hc;go_wp2_with fail;refine H.mono ?_;rintro e5 l ⟨a,q⟩;rcases a with⟨_,rfl⟩|⟨_,_,_,_,_,a,_⟩
    rotate_left
    ·cases a
    have s:=Zh (F.below q F.lt);have Q:=Zh (G.below q G.lt);have R:=Zh (I.trans (q.mono I.size));clear q H;have d:=s.c1;have f:=s.c2;have K:=s.fr;simp only at d f;go_upto_region 7 with fail;have m:Hid (XB (l.setCell (dA g 1) (bA (⟨#[]⟩))) g ⟨x.toNat,⟨#[]⟩,⟨#[]⟩⟩):=Zh (heap_set s 1 _);have i:Hid (XB (l.setCell (dA g 1) (bA (⟨#[]⟩))) w.heap.size zX):=Zh ((Below.heap_setCell l _ _ _ (by show w.heap.size≠g;omega)).trans Q);have B:Hid (eA w (l.setCell (dA g 1) (bA (⟨#[]⟩)))):=Zh (R.setCell (p:=(dA g 1)) (by show w.heap.size<=g;omega) _);clear d f K;generalize l.setCell (dA g 1) (bA (⟨#[]⟩))=S at m i B|-;have D:=m.c0;have d:=m.c1;have f:=m.c2;simp only at D d f;have z0:=i.c0;have y:=i.c1;have z:=i.c2;simp only[zX] at z0 y z;have zf:=i.fr;have j:w.heap.size<S.heap.size:=i.lt;go_wp2_with fail;refine bodyPost_ret (v:=.tuple #[.agg #[aA (x.toNat:Int),bA (⟨#[]⟩),bA (⟨#[]⟩)],vA,.bool false]) (by simp[results,results124,go_sem,z0,y,z,j]) rfl ⟨.inl ⟨J,⟨(x.toNat:Int),⟨#[]⟩,⟨#[]⟩⟩,rfl⟩,KG B⟩
   |some p=>
    obtain⟨t,r1⟩:=p;have HT:Hid (t.length<=255):=Zh (qJ hc).2;have L:=Zh hc;rw[hc] at H;clear hc;go_wp2_with fail;refine H.mono ?_;rintro e5 l ⟨a,q⟩;rcases a with⟨a,_⟩|⟨t',r',A3,n3,c3,a,rfl,hr3,hnc3,hcm3,hh3⟩
    ·cases a
    injection a with a;injection a with e1 e2;subst e1;subst e2;have R3:=Zh hr3;have T:=Zh (IK hh3 I U);have s:=Zh (F.below q F.lt);have Q:=Zh (G.below q G.lt);have R:=Zh (I.trans (q.mono I.size));clear q H;clear hh3;have d:=s.c1;have f:=s.c2;have K:=s.fr;simp only at d f;go_upto_region 7 with fail;have m:Hid (XB (l.setCell (dA g 1) (bA (bs t))) g ⟨x.toNat,bs t,⟨#[]⟩⟩):=Zh (heap_set s 1 _);have i:Hid (XB (l.setCell (dA g 1) (bA (bs t))) w.heap.size zX):=Zh ((Below.heap_setCell l _ _ _ (by show w.heap.size≠g;omega)).trans Q);have B:Hid (eA w (l.setCell (dA g 1) (bA (bs t)))):=Zh (R.setCell (p:=(dA g 1)) (by show w.heap.size<=g;omega) _);clear d f K;generalize l.setCell (dA g 1) (bA (bs t))=S at m i B|-;have J:Hid (sD x r=some (⟨x.toNat,bs t,⟨#[]⟩⟩,r1)):=Zh (by unfold sD;rw[if_neg cA,L.out];simp only;rw[if_pos e];rfl);have D:=m.c0;have d:=m.c1;have f:=m.c2;simp only at D d f;have z0:=i.c0;have y:=i.c1;have z:=i.c2;simp only[zX] at z0 y z;have zf:=i.fr;have j:w.heap.size<S.heap.size:=i.lt;go_wp2_with fail;refine bodyPost_ret (v:=.tuple #[.agg #[aA (x.toNat:Int),bA (bs t),bA (⟨#[]⟩)],.slice A3 n3 c3,.bool true]) (by simp[results,results124,go_sem,z0,y,z,j]) rfl ⟨.inr ⟨⟨(x.toNat:Int),bs t,⟨#[]⟩⟩,r1,A3,n3,c3,J,rfl,R3,hnc3,hcm3,T,by show(bs t).size<=255;rw[jH];exact HT,by show(⟨#[]⟩:wA).size<=255;decide⟩,KG B⟩
  ·rw[e];cases hc:bF r with
   |none=>
    have J:Hid (sD x r=none):=Zh (by unfold sD;rw[if_neg cA,hc]);rw[hc] at H;clear hc;go_wp2_with fail;refine H.mono ?_;rintro e5 l ⟨a,q⟩;rcases a with⟨_,rfl⟩|⟨_,_,_,_,_,a,_⟩
    rotate_left
    ·cases a
    have s:=Zh (F.below q F.lt);have Q:=Zh (G.below q G.lt);have R:=Zh (I.trans (q.mono I.size));clear q H;have d:=s.c1;have f:=s.c2;have K:=s.fr;simp only at d f;go_upto_region 7 with fail;have m:Hid (XB (l.setCell (dA g 1) (bA (⟨#[]⟩))) g ⟨x.toNat,⟨#[]⟩,⟨#[]⟩⟩):=Zh (heap_set s 1 _);have i:Hid (XB (l.setCell (dA g 1) (bA (⟨#[]⟩))) w.heap.size zX):=Zh ((Below.heap_setCell l _ _ _ (by show w.heap.size≠g;omega)).trans Q);have B:Hid (eA w (l.setCell (dA g 1) (bA (⟨#[]⟩)))):=Zh (R.setCell (p:=(dA g 1)) (by show w.heap.size<=g;omega) _);clear d f K;generalize l.setCell (dA g 1) (bA (⟨#[]⟩))=S at m i B|-;have D:=m.c0;have d:=m.c1;have f:=m.c2;simp only at D d f;have z0:=i.c0;have y:=i.c1;have z:=i.c2;simp only[zX] at z0 y z;have zf:=i.fr;have j:w.heap.size<S.heap.size:=i.lt;go_wp2_with fail;refine bodyPost_ret (v:=.tuple #[.agg #[aA (x.toNat:Int),bA (⟨#[]⟩),bA (⟨#[]⟩)],vA,.bool false]) (by simp[results,results124,go_sem,z0,y,z,j]) rfl ⟨.inl ⟨J,⟨(x.toNat:Int),⟨#[]⟩,⟨#[]⟩⟩,rfl⟩,KG B⟩
   |some p=>
    obtain⟨t,r1⟩:=p;have HT:Hid (t.length<=255):=Zh (qJ hc).2;have L:=Zh hc;rw[hc] at H;clear hc;go_wp2_with fail;refine H.mono ?_;rintro e5 l ⟨a,q⟩;rcases a with⟨a,_⟩|⟨t',r',A3,n3,c3,a,rfl,hr3,hnc3,hcm3,hh3⟩
    ·cases a
    injection a with a;injection a with e1 e2;subst e1;subst e2;have R3:=Zh hr3;have T:=Zh (IK hh3 I U);have s:=Zh (F.below q F.lt);have Q:=Zh (G.below q G.lt);have R:=Zh (I.trans (q.mono I.size));clear q H;clear hh3;have d:=s.c1;have f:=s.c2;have K:=s.fr;simp only at d f;go_upto_region 7 with fail;have m:Hid (XB (l.setCell (dA g 1) (bA (bs t))) g ⟨x.toNat,bs t,⟨#[]⟩⟩):=Zh (heap_set s 1 _);have i:Hid (XB (l.setCell (dA g 1) (bA (bs t))) w.heap.size zX):=Zh ((Below.heap_setCell l _ _ _ (by show w.heap.size≠g;omega)).trans Q);have B:Hid (eA w (l.setCell (dA g 1) (bA (bs t)))):=Zh (R.setCell (p:=(dA g 1)) (by show w.heap.size<=g;omega) _);clear d f K;generalize l.setCell (dA g 1) (bA (bs t))=S at m i B|-;have V:=jP r1 A3 n3 c3 C S (T.below B U) (Nat.le_trans U B.size) R3 hnc3 (by have:=R3.out;have:=HT.out;have:=RN.out;have:=Ba L;omega) hcm3;cases hc2:bF r1 with
    |none=>
     have J:Hid (sD x r=none):=Zh (by unfold sD;rw[if_neg cA,L.out];simp only;rw[if_neg cA,hc2]);rw[hc2] at V;clear hc2;go_wp2_with fail;refine V.mono ?_;rintro e7 M ⟨a,N⟩;rcases a with⟨_,rfl⟩|⟨_,_,_,_,_,a,_⟩
     rotate_left
     ·cases a
     have O:=Zh (m.below N m.lt);have Z7:=Zh (i.below N i.lt);have B7:=Zh (B.trans (N.mono B.size));clear N V;have d:=O.c1;have f:=O.c2;have K:=O.fr;simp only at d f;go_upto_region 9 with fail;have P:Hid (XB (M.setCell (dA g 2) (bA (⟨#[]⟩))) g ⟨x.toNat,bs t,⟨#[]⟩⟩):=Zh (heap_set O 2 _);have E:Hid (XB (M.setCell (dA g 2) (bA (⟨#[]⟩))) w.heap.size zX):=Zh ((Below.heap_setCell M _ _ _ (by show w.heap.size≠g;omega)).trans Z7);have B8:Hid (eA w (M.setCell (dA g 2) (bA (⟨#[]⟩)))):=Zh (B7.setCell (p:=(dA g 2)) (by show w.heap.size<=g;omega) _);clear d f K;generalize M.setCell (dA g 2) (bA (⟨#[]⟩))=W8 at P E B8|-;have D:=P.c0;have d:=P.c1;have f:=P.c2;simp only at D d f;have z0:=E.c0;have y:=E.c1;have z:=E.c2;simp only[zX] at z0 y z;have zf:=E.fr;have j:w.heap.size<W8.heap.size:=E.lt;go_wp2_with fail;refine bodyPost_ret (v:=.tuple #[.agg #[aA (x.toNat:Int),bA (bs t),bA (⟨#[]⟩)],vA,.bool false]) (by simp[results,results124,go_sem,z0,y,z,j]) rfl ⟨.inl ⟨J,⟨(x.toNat:Int),bs t,⟨#[]⟩⟩,rfl⟩,KG B8⟩
    |some p=>
     obtain⟨u,r2⟩:=p;have HU:Hid (u.length<=255):=Zh (qJ hc2).2;have J:Hid (sD x r=some (⟨x.toNat,bs t,bs u⟩,r2)):=Zh (by unfold sD;rw[if_neg cA,L.out];simp only;rw[if_neg cA,hc2]);rw[hc2] at V;clear hc2;go_wp2_with fail;refine V.mono ?_;rintro e7 M ⟨a,N⟩;rcases a with⟨a,_⟩|⟨t',r',A4,n4,c4,a,rfl,hr4,hnc4,hcm4,hh4⟩
     ·cases a
     injection a with a;injection a with e1 e2;subst e1;subst e2;have R4:=Zh hr4;have a1:=Zh (IK hh4 B U);have O:=Zh (m.below N m.lt);have Z7:=Zh (i.below N i.lt);have B7:=Zh (B.trans (N.mono B.size));clear N V;clear hh4;have d:=O.c1;have f:=O.c2;have K:=O.fr;simp only at d f;go_upto_region 9 with fail;have P:Hid (XB (M.setCell (dA g 2) (bA (bs u))) g ⟨x.toNat,bs t,bs u⟩):=Zh (heap_set O 2 _);have E:Hid (XB (M.setCell (dA g 2) (bA (bs u))) w.heap.size zX):=Zh ((Below.heap_setCell M _ _ _ (by show w.heap.size≠g;omega)).trans Z7);have B8:Hid (eA w (M.setCell (dA g 2) (bA (bs u)))):=Zh (B7.setCell (p:=(dA g 2)) (by show w.heap.size<=g;omega) _);clear d f K;generalize M.setCell (dA g 2) (bA (bs u))=W8 at P E B8|-;have D:=P.c0;have d:=P.c1;have f:=P.c2;simp only at D d f;have z0:=E.c0;have y:=E.c1;have z:=E.c2;simp only[zX] at z0 y z;have zf:=E.fr;have j:w.heap.size<W8.heap.size:=E.lt;go_wp2_with fail;refine bodyPost_ret (v:=.tuple #[.agg #[aA (x.toNat:Int),bA (bs t),bA (bs u)],.slice A4 n4 c4,.bool true]) (by simp[results,results124,go_sem,z0,y,z,j]) rfl ⟨.inr ⟨⟨(x.toNat:Int),bs t,bs u⟩,r2,A4,n4,c4,J,rfl,R4,hnc4,hcm4,a1,by show(bs t).size<=255;rw[jH];exact HT,by show(bs u).size<=255;rw[jH];exact HU⟩,KG B8⟩
 ·have RN:Hid (r.length=n-1):=Zh (uA KL.out);have HR:=HD;have X:c-1<=maxLen:=wD;have Y:n-1<=c-1:=cA;have a0:n-1<=100000:=cA;have a7:¬c-1=0:=cA;clear HD;have G1:Hid (∀Z,eA w Z->fA 144 #[.slice (some ⟨b,o+1,none⟩) (n-1) (c-1)] Z (JV Z C (bF r))):=Zh (fun Z h=>jP r _ _ _ C Z (HR.below h U) (Nat.le_trans U h.size) RN Y a0 X);have D:=F.c0;simp only at D;go_wp2_with fail;refine zA (DX (x.toNat:Int) W2) ?_;clear D;have H:=G1 W2 I;clear G1;rcases sN (x.toNat:Int) with e|e|e
  ·rw[e];have J:Hid (sD x r=some (⟨x.toNat,⟨#[]⟩,⟨#[]⟩⟩,r)):=Zh (by unfold sD;rw[if_pos e];rfl);have D:=F.c0;have d:=F.c1;have f:=F.c2;simp only at D d f;have z0:=G.c0;have y:=G.c1;have z:=G.c2;simp only[zX] at z0 y z;have zf:=G.fr;have j:w.heap.size<W2.heap.size:=G.lt;go_wp2_with fail;refine bodyPost_ret (v:=.tuple #[.agg #[aA (x.toNat:Int),bA (⟨#[]⟩),bA (⟨#[]⟩)],.slice (some ⟨b,o+1,none⟩) (n-1) (c-1),.bool true]) (by simp[results,results124,go_sem,z0,y,z,j]) rfl ⟨.inr ⟨_,r,_,_,_,J,rfl,RN,Y,X,HR,by show(⟨#[]⟩:wA).size<=255;decide,by show(⟨#[]⟩:wA).size<=255;decide⟩,KG I⟩
  ·rw[e];cases hc:bF r with
   |none=>
    have J:Hid (sD x r=none):=Zh (by unfold sD;rw[if_neg cA,hc]);rw[hc] at H;clear hc;go_wp2_with fail;refine H.mono ?_;rintro e5 l ⟨a,q⟩;rcases a with⟨_,rfl⟩|⟨_,_,_,_,_,a,_⟩
    rotate_left
    ·cases a
    have s:=Zh (F.below q F.lt);have Q:=Zh (G.below q G.lt);have R:=Zh (I.trans (q.mono I.size));clear q H;have d:=s.c1;have f:=s.c2;have K:=s.fr;simp only at d f;go_upto_region 7 with fail;have m:Hid (XB (l.setCell (dA g 1) (bA (⟨#[]⟩))) g ⟨x.toNat,⟨#[]⟩,⟨#[]⟩⟩):=Zh (heap_set s 1 _);have i:Hid (XB (l.setCell (dA g 1) (bA (⟨#[]⟩))) w.heap.size zX):=Zh ((Below.heap_setCell l _ _ _ (by show w.heap.size≠g;omega)).trans Q);have B:Hid (eA w (l.setCell (dA g 1) (bA (⟨#[]⟩)))):=Zh (R.setCell (p:=(dA g 1)) (by show w.heap.size<=g;omega) _);clear d f K;generalize l.setCell (dA g 1) (bA (⟨#[]⟩))=S at m i B|-;have D:=m.c0;have d:=m.c1;have f:=m.c2;simp only at D d f;have z0:=i.c0;have y:=i.c1;have z:=i.c2;simp only[zX] at z0 y z;have zf:=i.fr;have j:w.heap.size<S.heap.size:=i.lt;go_wp2_with fail;refine bodyPost_ret (v:=.tuple #[.agg #[aA (x.toNat:Int),bA (⟨#[]⟩),bA (⟨#[]⟩)],vA,.bool false]) (by simp[results,results124,go_sem,z0,y,z,j]) rfl ⟨.inl ⟨J,⟨(x.toNat:Int),⟨#[]⟩,⟨#[]⟩⟩,rfl⟩,KG B⟩
   |some p=>
    obtain⟨t,r1⟩:=p;have HT:Hid (t.length<=255):=Zh (qJ hc).2;have L:=Zh hc;rw[hc] at H;clear hc;go_wp2_with fail;refine H.mono ?_;rintro e5 l ⟨a,q⟩;rcases a with⟨a,_⟩|⟨t',r',A3,n3,c3,a,rfl,hr3,hnc3,hcm3,hh3⟩
    ·cases a
    injection a with a;injection a with e1 e2;subst e1;subst e2;have R3:=Zh hr3;have T:=Zh (IK hh3 I U);have s:=Zh (F.below q F.lt);have Q:=Zh (G.below q G.lt);have R:=Zh (I.trans (q.mono I.size));clear q H;clear hh3;have d:=s.c1;have f:=s.c2;have K:=s.fr;simp only at d f;go_upto_region 7 with fail;have m:Hid (XB (l.setCell (dA g 1) (bA (bs t))) g ⟨x.toNat,bs t,⟨#[]⟩⟩):=Zh (heap_set s 1 _);have i:Hid (XB (l.setCell (dA g 1) (bA (bs t))) w.heap.size zX):=Zh ((Below.heap_setCell l _ _ _ (by show w.heap.size≠g;omega)).trans Q);have B:Hid (eA w (l.setCell (dA g 1) (bA (bs t)))):=Zh (R.setCell (p:=(dA g 1)) (by show w.heap.size<=g;omega) _);clear d f K;generalize l.setCell (dA g 1) (bA (bs t))=S at m i B|-;have J:Hid (sD x r=some (⟨x.toNat,bs t,⟨#[]⟩⟩,r1)):=Zh (by unfold sD;rw[if_neg cA,L.out];simp only;rw[if_pos e];rfl);have D:=m.c0;have d:=m.c1;have f:=m.c2;simp only at D d f;have z0:=i.c0;have y:=i.c1;have z:=i.c2;simp only[zX] at z0 y z;have zf:=i.fr;have j:w.heap.size<S.heap.size:=i.lt;go_wp2_with fail;refine bodyPost_ret (v:=.tuple #[.agg #[aA (x.toNat:Int),bA (bs t),bA (⟨#[]⟩)],.slice A3 n3 c3,.bool true]) (by simp[results,results124,go_sem,z0,y,z,j]) rfl ⟨.inr ⟨⟨(x.toNat:Int),bs t,⟨#[]⟩⟩,r1,A3,n3,c3,J,rfl,R3,hnc3,hcm3,T,by show(bs t).size<=255;rw[jH];exact HT,by show(⟨#[]⟩:wA).size<=255;decide⟩,KG B⟩
  ·rw[e];cases hc:bF r with
   |none=>
    have J:Hid (sD x r=none):=Zh (by unfold sD;rw[if_neg cA,hc]);rw[hc] at H;clear hc;go_wp2_with fail;refine H.mono ?_;rintro e5 l ⟨a,q⟩;rcases a with⟨_,rfl⟩|⟨_,_,_,_,_,a,_⟩
    rotate_left
    ·cases a
    have s:=Zh (F.below q F.lt);have Q:=Zh (G.below q G.lt);have R:=Zh (I.trans (q.mono I.size));clear q H;have d:=s.c1;have f:=s.c2;have K:=s.fr;simp only at d f;go_upto_region 7 with fail;have m:Hid (XB (l.setCell (dA g 1) (bA (⟨#[]⟩))) g ⟨x.toNat,⟨#[]⟩,⟨#[]⟩⟩):=Zh (heap_set s 1 _);have i:Hid (XB (l.setCell (dA g 1) (bA (⟨#[]⟩))) w.heap.size zX):=Zh ((Below.heap_setCell l _ _ _ (by show w.heap.size≠g;omega)).trans Q);have B:Hid (eA w (l.setCell (dA g 1) (bA (⟨#[]⟩)))):=Zh (R.setCell (p:=(dA g 1)) (by show w.heap.size<=g;omega) _);clear d f K;generalize l.setCell (dA g 1) (bA (⟨#[]⟩))=S at m i B|-;have D:=m.c0;have d:=m.c1;have f:=m.c2;simp only at D d f;have z0:=i.c0;have y:=i.c1;have z:=i.c2;simp only[zX] at z0 y z;have zf:=i.fr;have j:w.heap.size<S.heap.size:=i.lt;go_wp2_with fail;refine bodyPost_ret (v:=.tuple #[.agg #[aA (x.toNat:Int),bA (⟨#[]⟩),bA (⟨#[]⟩)],vA,.bool false]) (by simp[results,results124,go_sem,z0,y,z,j]) rfl ⟨.inl ⟨J,⟨(x.toNat:Int),⟨#[]⟩,⟨#[]⟩⟩,rfl⟩,KG B⟩
   |some p=>
    obtain⟨t,r1⟩:=p;have HT:Hid (t.length<=255):=Zh (qJ hc).2;have L:=Zh hc;rw[hc] at H;clear hc;go_wp2_with fail;refine H.mono ?_;rintro e5 l ⟨a,q⟩;rcases a with⟨a,_⟩|⟨t',r',A3,n3,c3,a,rfl,hr3,hnc3,hcm3,hh3⟩
    ·cases a
    injection a with a;injection a with e1 e2;subst e1;subst e2;have R3:=Zh hr3;have T:=Zh (IK hh3 I U);have s:=Zh (F.below q F.lt);have Q:=Zh (G.below q G.lt);have R:=Zh (I.trans (q.mono I.size));clear q H;clear hh3;have d:=s.c1;have f:=s.c2;have K:=s.fr;simp only at d f;go_upto_region 7 with fail;have m:Hid (XB (l.setCell (dA g 1) (bA (bs t))) g ⟨x.toNat,bs t,⟨#[]⟩⟩):=Zh (heap_set s 1 _);have i:Hid (XB (l.setCell (dA g 1) (bA (bs t))) w.heap.size zX):=Zh ((Below.heap_setCell l _ _ _ (by show w.heap.size≠g;omega)).trans Q);have B:Hid (eA w (l.setCell (dA g 1) (bA (bs t)))):=Zh (R.setCell (p:=(dA g 1)) (by show w.heap.size<=g;omega) _);clear d f K;generalize l.setCell (dA g 1) (bA (bs t))=S at m i B|-;have V:=jP r1 A3 n3 c3 C S (T.below B U) (Nat.le_trans U B.size) R3 hnc3 (by have:=R3.out;have:=HT.out;have:=RN.out;have:=Ba L;omega) hcm3;cases hc2:bF r1 with
    |none=>
     have J:Hid (sD x r=none):=Zh (by unfold sD;rw[if_neg cA,L.out];simp only;rw[if_neg cA,hc2]);rw[hc2] at V;clear hc2;go_wp2_with fail;refine V.mono ?_;rintro e7 M ⟨a,N⟩;rcases a with⟨_,rfl⟩|⟨_,_,_,_,_,a,_⟩
     rotate_left
     ·cases a
     have O:=Zh (m.below N m.lt);have Z7:=Zh (i.below N i.lt);have B7:=Zh (B.trans (N.mono B.size));clear N V;have d:=O.c1;have f:=O.c2;have K:=O.fr;simp only at d f;go_upto_region 9 with fail;have P:Hid (XB (M.setCell (dA g 2) (bA (⟨#[]⟩))) g ⟨x.toNat,bs t,⟨#[]⟩⟩):=Zh (heap_set O 2 _);have E:Hid (XB (M.setCell (dA g 2) (bA (⟨#[]⟩))) w.heap.size zX):=Zh ((Below.heap_setCell M _ _ _ (by show w.heap.size≠g;omega)).trans Z7);have B8:Hid (eA w (M.setCell (dA g 2) (bA (⟨#[]⟩)))):=Zh (B7.setCell (p:=(dA g 2)) (by show w.heap.size<=g;omega) _);clear d f K;generalize M.setCell (dA g 2) (bA (⟨#[]⟩))=W8 at P E B8|-;have D:=P.c0;have d:=P.c1;have f:=P.c2;simp only at D d f;have z0:=E.c0;have y:=E.c1;have z:=E.c2;simp only[zX] at z0 y z;have zf:=E.fr;have j:w.heap.size<W8.heap.size:=E.lt;go_wp2_with fail;refine bodyPost_ret (v:=.tuple #[.agg #[aA (x.toNat:Int),bA (bs t),bA (⟨#[]⟩)],vA,.bool false]) (by simp[results,results124,go_sem,z0,y,z,j]) rfl ⟨.inl ⟨J,⟨(x.toNat:Int),bs t,⟨#[]⟩⟩,rfl⟩,KG B8⟩
    |some p=>
     obtain⟨u,r2⟩:=p;have HU:Hid (u.length<=255):=Zh (qJ hc2).2;have J:Hid (sD x r=some (⟨x.toNat,bs t,bs u⟩,r2)):=Zh (by unfold sD;rw[if_neg cA,L.out];simp only;rw[if_neg cA,hc2]);rw[hc2] at V;clear hc2;go_wp2_with fail;refine V.mono ?_;rintro e7 M ⟨a,N⟩;rcases a with⟨a,_⟩|⟨t',r',A4,n4,c4,a,rfl,hr4,hnc4,hcm4,hh4⟩
     ·cases a
     injection a with a;injection a with e1 e2;subst e1;subst e2;have R4:=Zh hr4;have a1:=Zh (IK hh4 B U);have O:=Zh (m.below N m.lt);have Z7:=Zh (i.below N i.lt);have B7:=Zh (B.trans (N.mono B.size));clear N V;clear hh4;have d:=O.c1;have f:=O.c2;have K:=O.fr;simp only at d f;go_upto_region 9 with fail;have P:Hid (XB (M.setCell (dA g 2) (bA (bs u))) g ⟨x.toNat,bs t,bs u⟩):=Zh (heap_set O 2 _);have E:Hid (XB (M.setCell (dA g 2) (bA (bs u))) w.heap.size zX):=Zh ((Below.heap_setCell M _ _ _ (by show w.heap.size≠g;omega)).trans Z7);have B8:Hid (eA w (M.setCell (dA g 2) (bA (bs u)))):=Zh (B7.setCell (p:=(dA g 2)) (by show w.heap.size<=g;omega) _);clear d f K;generalize M.setCell (dA g 2) (bA (bs u))=W8 at P E B8|-;have D:=P.c0;have d:=P.c1;have f:=P.c2;simp only at D d f;have z0:=E.c0;have y:=E.c1;have z:=E.c2;simp only[zX] at z0 y z;have zf:=E.fr;have j:w.heap.size<W8.heap.size:=E.lt;go_wp2_with fail;refine bodyPost_ret (v:=.tuple #[.agg #[aA (x.toNat:Int),bA (bs t),bA (bs u)],.slice A4 n4 c4,.bool true]) (by simp[results,results124,go_sem,z0,y,z,j]) rfl ⟨.inr ⟨⟨(x.toNat:Int),bs t,bs u⟩,r2,A4,n4,c4,J,rfl,R4,hnc4,hcm4,a1,by show(bs t).size<=255;rw[jH];exact HT,by show(bs u).size<=255;rw[jH];exact HU⟩,KG B8⟩
theorem PU{w w':World}{b0:KA}{k:Nat}(h:SA b0=([],k))(hk:¬k=0)(hb:eA w w'):VO w (SA b0) (.returned (.tuple #[vA,.iface 56 (aA (k:Nat))])) w':=by
 have a:UA ((k:Nat):Int)= .iface 56 (aA (k:Nat)):=(by unfold UA;rw[if_neg cA]);rw[h];refine⟨none,0,0,?_,rfl,Zl,by unfold maxLen;omega,fun _=>rfl,Kind.pA.nil _ _ _,hb⟩;show _=Ending.returned (.tuple #[vA,UA ((k:Nat):Int)]);rw[a]
theorem Cs:uK:=by
 intro o A n c w hh hn u C hl;have ST:Hid (ML w o (.slice A n c) (vA) w):=Zh ⟨A,n,c,o,none,0,0,[],o.length+1,rfl,rfl,hn,u,C,hl,by omega,by simp,Zh rfl,Zh hh,Zh (Kind.Own.nil kX w _),Zh Ze⟩;clear hh hn u C hl;go_enter func101,ntmps101;go_wp2_with fail;go_loopw [0,4] (fun s0 s4 wr=>ML w o s0 s4 wr) (fun s0 _ _=>match s0 with| .slice _ n _=>n|_=>0)
 case atStart=>exact ST
 case round=>
  obtain⟨A,n,c,x,A',R,c',b,f,rfl,rfl,I,u,C,a0,hf,a6,S,HH,Y,F⟩:=hrel;clear ST;have a7:=Y0 Y;by_cases h0:0<n
  ·obtain⟨T,rfl⟩:∃q,f=q+1:=⟨f-1,by omega⟩;cases x with
   |nil=>simp at I;omega
   |cons y r=>
   have U:r.length+1=n:=I;have M:=Zh (Pp y r A n c w.heap.size wr (HH.below F Zl) F.size U u a0 C);have Z:Hid (xF (T+1) (y:: r) b=match YF (y:: r) with|none=>([],7)|some (i,r)=>if b.length=120 then([],13) else xF T r (b++[i])):=Zh (by rw[xF,if_neg DA];cases YF (y:: r)<;>rfl);have N:Hid (YF (y:: r)=match sD y r with|none=>none|some (i,D)=>if gB i then some (i,D) else none):=Zh rfl;have BK:Hid (∀i D,YF (y:: r)=some (i,D)->D.length+1<=n):=Zh (fun i D h=>by
    have h1:=congrArg List.length (qZ h).1;have h2:=pZ i;rw[List.length_append,List.length_cons] at h1;omega)
   clear I U;cases hc:sD y r with
   |none=>
    rw[hc] at M N;have E:Hid (SA o=([],7)):=Zh (by rw[S.out,Z.out,N.out]);clear hc;go_wp2_with fail;refine M.mono ?_;rintro e G ⟨s,O⟩;rcases s with⟨_,⟨j,a,g⟩,rfl⟩|⟨_,_,_,_,_,s,_⟩
    ·have P:=Zh (F.trans (O.mono F.size));clear O M;go_wp2_with fail;go_ret2;exact PU (k:=7) E nA (P.alloc P.size _)
    ·cases s
   |some p=>
    obtain⟨i,D⟩:=p;rw[hc] at M N;clear hc;simp only at N;go_wp2_with fail;refine M.mono ?_;rintro e G ⟨s,O⟩;rcases s with⟨s,_⟩|⟨i',r',A2,n2,c2,s,rfl,hr2,hnc2,hcm2,hh2,hia,hib⟩
    ·cases s
    injection s with s;injection s with e1 e2;subst e1;subst e2;have P:=Zh (F.trans (O.mono F.size));have O2:=Zh (Y.below O Zl);have a1:=Zh (IK hh2 F Zl);have V:=Zh hr2;obtain⟨j,a,g⟩:=i;simp only at hia hib;obtain⟨bm,J⟩:=qA (gB ⟨j,a,g⟩);have CM:Hid (∀W,fA 125 #[.agg #[aA j,bA a,bA g]] W fun e w'=>e= .returned (.bool bm)/\eA W w'):=Zh (fun W=>by
     have:=xb ⟨j,a,g⟩ W (by show a.size<=_;omega) (by show g.size<=_;omega);rw[J] at this;exact this)
    have X:=Zh J;clear O M hh2 hr2 J Y;go_upto_region 4 with fail;have K:Hid (XB (G.alloc (.cells #[aA j,bA a,bA g] 110)) G.heap.size ⟨j,a,g⟩):=Zh (XB.new G ⟨j,a,g⟩);have BA:Hid (eA G (G.alloc (.cells #[aA j,bA a,bA g] 110))):=Zh (Zb _ _);generalize G.alloc (.cells #[aA j,bA a,bA g] 110)=w3 at K BA|-;have O3:=Zh (O2.below BA Zl);have B3:=Zh (P.trans (BA.mono P.size));have g0:=K.c0;have g1:=K.c1;have g2:=K.c2;simp only at g0 g1 g2;clear BA O2 P;go_wp2_with fail;refine(CM w3).mono ?_;rintro e w4 ⟨rfl,b4⟩;have N4:=Zh (K.below b4 K.lt);have O4:=Zh (O3.below b4 Zl);have B4:=Zh (B3.trans (b4.mono B3.size));have a2:=B4.size;clear b4 O3 B3 K g0 g1 g2 CM;cases bm with
    |false=>
     have E:Hid (SA o=([],7)):=Zh (by rw[S.out,Z.out,N.out,if_neg (by rw[X.out];decide)]);go_wp2_with fail;go_ret2;exact PU (k:=7) E nA B4
    |true=>
     have OS:Hid (YF (y:: r)=some (⟨j,a,g⟩,D)):=Zh (by rw[N.out,if_pos X.out]);by_cases H:b.length=120
     ·have E:Hid (SA o=([],13)):=Zh (by rw[S.out,Z.out,OS.out];exact if_pos H);have q1:((R:Int)==120)=true:=AA;go_wp2_with fail;go_ret2;exact PU (k:=13) E nA B4
     ·have E:Hid (SA o=xF T D (b++[⟨j,a,g⟩])):=Zh (by rw[S.out,Z.out,OS.out];exact if_neg H);have q1:((R:Int)==120)=false:=AA;have L:Hid (n2<n):=Zh (by have:=BK _ _ OS;have:=V.out;omega);have g0:=N4.c0;have g1:=N4.c1;have g2:=N4.c2;simp only at g0 g1 g2;go_upto_region 9 with(at_builtin;refine kX.iC rfl _ _ rfl (v:=.slice A' R c') (l:=b) (m:=[⟨j,a,g⟩]) (B:=w.heap.size) rfl (O4.alloc _) rfl rfl RB (Kind.pA.lit (heap_alloc_new _ _) rfl) AA AA ?_;intro v' w5 d t a3;obtain⟨A5,n5,c5,rfl,e1,e2,e3,e4,e5⟩:=d.slice;have B5:Hid (eA w w5):=Zh ((B4.alloc a2 _).grown t AA (fun k hk=>(O4.lt hk).1));have O5:=Zh d;clear d t a3 e1 e2 e3 e4 e5);have a4:Hid (ML w o (.slice A2 n2 c2) (.slice A5 n5 c5) w5):=Zh ⟨A2,n2,c2,D,A5,n5,c5,b++[⟨j,a,g⟩],T,rfl,rfl,V,hnc2,hcm2,by have:=L.out;omega,by have:=L.out;omega,by simp;omega,E,a1,O5,B5⟩;go_wp2_with fail;go_roundw
      case rel=>exact a4
      case measure=>exact L
  ·obtain⟨T,rfl⟩:∃q,f=q+1:=⟨f-1,by omega⟩;have E:Hid (SA o=(b,0)):=Zh (by rw[S.out,xF,if_pos (List.eq_nil_of_length_eq_zero cA)]);have Q:=Np Y;have a5:Hid (VO w (SA o) (.returned (.tuple #[.slice A' R c',.nilIface])) wr):=Zh (by
    rw[E.out];exact⟨A',R,c',rfl,Q.1,Q.2.1,Q.2.2.1,Q.2.2.2.1,Q.2.2.2.2,F⟩)
   clear Q;go_wp2_with fail;go_ret2;exact a5
end P12
namespace P10
open Go.RowKit Kd P4 P5 P8 P9
end P10
namespace P9
open Go.RowKit Kd P4 P5 P8
def Zo(w:World)(most:Nat)(ts:List TV)(e:Ending)(w':World):Prop:=∃m:Nat,e= .returned (aA m)/\m<=most+1/\(m<=most->m=xB (oA ts)/\bH (oA ts)=true)/\eA w w'
theorem fe(ts:List TV)(most:Nat)(w:World)(A:jA)(n c:Nat)(hmo:most<=1000)(hh:kT.pA w w.heap.size A ts)(hn:ts.length=n)(zC:n<=c)(hc:c<=maxLen)(hok:∀t∈ts,vC w w.heap.size t)(hfit:∀t∈ts,JJ t):
 fA 5 #[.slice A n c,aA most] w (Zo w most ts):=by
 have D:=Zh hh;have E:=Zh hn;have F:=Zh hok;have v:=Zh hfit;have G:Hid ((oA ts).length=n):=Zh (by rw[IB];simpa using hn);unfold maxLen at hc;clear hh hn hok hfit;go_enter func5,ntmps5;go_wp2_with fail;go_loopw [5,6] (fun H x wr=>∃(k a:Nat),k<=n/\a<=most+1/\x = aA k/\H = aA a/\Hid (a<=most->a=xB ((oA ts).take k)/\bH ((oA ts).take k)=true)/\Hid (eA w wr)) (fun _ x _=>n-(intOf x).toNat)
 case atStart=>exact⟨0,0,by omega,by omega,rfl,rfl,Zh (fun _=>by simp[xB,bH]),Zh Ze⟩
 case round=>
  obtain⟨k,a,V,p,rfl,rfl,z,i⟩:=hrel;by_cases I:k<n
  ·by_cases j:a<=most
   ·have f:k<ts.length:=(uA E.out);have q:k<(oA ts).length:=(by rw[IB];simpa using f);have r:(oA ts)[k]=er ts[k]:=(by simp[IB]);have l:=Zh (dM q);have m:=Zh (fun u=>YX q u);rw[r] at l m;obtain⟨b,o,rfl,W,J,K,L,M,N⟩:=TJ (D.on i) f;have g:((most-a:Nat):Int)=(most:Int)-(a:Int):=cA;have B:Hid (fA 20 #[.agg #[bA ts[k].tag,bA ts[k].txt,bA ts[k].key,.slice ts[k].sa.A ts[k].sa.n ts[k].sa.c,.slice ts[k].sk.A ts[k].sk.n ts[k].sk.c],aA ((most:Int)-(a:Int))] wr (UQ wr (most-a) ts[k])):=Zh (by
     rw[<-g];exact uk ts[k] (most-a) wr cA ((F _ (List.getElem_mem f)).on i) (v _ (List.getElem_mem f)))
    clear r g;generalize ts[k]=d at J K L M N B l m;go_wp2_with fail;refine B.mono ?_;rintro e X ⟨O,rfl,P,Q,s,C⟩;have R:=Zh (i.trans (C.mono i.size));have y:=Zh s;clear C s;go_wp2_with fail;go_roundw
    case rel=>
     refine⟨k+1,a+O,by omega,by omega,by go_num,by go_num,Zh (fun S=>?_),R⟩;obtain⟨Y,T⟩:=y cA;obtain⟨Z,U⟩:=z cA;exact⟨by rw[l.out];omega,m U T⟩
    case measure=>simp[intOf];omega
   ·obtain rfl:a=most+1:=cA
    go_wp2_with fail;go_ret;exact⟨most+1,rfl,by omega,fun h=>by omega,i⟩
  ·obtain rfl:k=n:=cA
   by_cases j:a<=most
   ·go_wp2_with fail;go_ret;refine⟨a,rfl,p,fun _=>?_,i⟩;have u:=z j;rw[List.take_of_length_le (uA G.out)] at u;exact u
   ·go_wp2_with fail;go_ret;exact⟨a,rfl,p,fun h=>absurd h j,i⟩
end P9
end Go.Proofs.YtngnkmeaaneklaaGreat
