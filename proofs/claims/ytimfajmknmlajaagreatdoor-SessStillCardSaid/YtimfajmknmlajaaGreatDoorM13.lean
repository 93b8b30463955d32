/- A part of the proof. No condition. -/
import Derived.Deep.RegionWith
import Derived.Deep.RegionHeld3
import Derived.Test.YtimfajmknmlajaaGreatDoorM1
import Derived.Test.YtimfajmknmlajaaGreatDoorM3
import Derived.Test.YtimfajmknmlajaaGreatDoorM4
import Derived.Test.YtimfajmknmlajaaGreatDoorM7
import Derived.Test.YtimfajmknmlajaaGreatDoorM8
import Derived.Test.YtimfajmknmlajaaGreatDoorM10
set_option linter.unusedVariables false
set_option linter.unusedSimpArgs false
set_option maxRecDepth 100000
set_option maxHeartbeats 40000000
namespace Go.Proofs.YtimfajmknmlajaaGreatDoor
open Go.Proofs.Tryz
namespace P13
open Go.RowKit Kd P4 P5 P11 P12 Mv
theorem LX{w:World}{B g n c:Nat}{ps:List Pl}(h:aI.Own w B (.slice (some (cA g 0)) n c) ps){i:Nat}(hi:i<ps.length):
 w.cell? ⟨g,i*2,none⟩=some (.map (some ps[i].m))/\w.cell? ⟨g,i*2+1,none⟩=some (.bool ps[i].sk)/\g<w.heap.size:=by
 obtain⟨A,p,q,j,_,_,_,_,k⟩:=h.slice;injection j with e1 e2 e3;subst e1;obtain⟨b,o,a,l,d⟩:=k.at hi;injection a with a;injection a with h1 h2;subst h1;subst h2;have e:=d 0 _ rfl;have f:=d 1 _ rfl;refine⟨?_,?_,l⟩
 ·rw[show 0+(i*aI.size+0)=i*2 by show 0+(i*2+0)=_;omega] at e;exact e
 ·rw[show 0+(i*aI.size+1)=i*2+1 by show 0+(i*2+1)=_;omega] at f;exact f
theorem JU(op:Int)(w:World){r:Bool}(hr:bD op=r):jA 249 #[aA op] w fun e w'=>e= .returned (.bool r)/\w=w':=by
 subst hr;by_cases a:op=5
 ·subst a;go_enter func249,ntmps249;go_wp2_with fail;go_ret;exact⟨rfl,rfl⟩
 by_cases b:op=6
 ·subst b;go_enter func249,ntmps249;go_wp2_with fail;go_ret;exact⟨rfl,rfl⟩
 have e:bD op=false:=(by simp[bD,a,b]);rw[e];have c:=int_ne a;have d:=int_ne b;go_enter func249,ntmps249;go_wp2_with fail;go_ret;exact⟨rfl,rfl⟩
structure ly(w:World)(p g d:Nat)(nmv sk rt rk:Bool)(a b:qA):Prop where
 T:∀w9,fA w w9->jA 250 #[lA p,bA a] w9 fun e w'=>e= .returned (.bool rt)/\w9=w'
 D:∀w9,fA w w9->jA 226 #[lA p] w9 fun e w'=>e= .returned (aA d)/\w9=w'
 H:∀w9,fA w w9->jA 251 #[lA p] w9 fun e w'=>e= .returned (.pointer (some ⟨g,d*2,none⟩))/\∃j,w'=w9.drewN j
 S:∀w9,fA w w9->jA 253 #[.pointer (some ⟨g,d*2,none⟩),bA b] w9 fun e w'=>e= .returned (.bool rk)/\fA w9 w'
 K:∀w9,fA w w9->w9.cell? ⟨g,d*2+1,none⟩=some (.bool sk)
theorem nR{P:List (List In)}{d:Nat}(h:P.length=d+1):DF P=P[d]'dA:=by
 rw[DF];exact pT (s:=P) (d:=d) dA h
theorem Bv{w:World}{B p k:Nat}{P:List (List In)}{nm:Option (List (uA))}(h:xJ w B p k P nm)(hk:k<=1000)(a b:qA)(hb:b.size<=maxLen):
 ∃g d,P.length=d+1/\d<=8/\ly w p g d nm.isSome (yI (DF P)) (decide (QI nm a.toList 0=0)) (wJ (DF P) b.toList) a b:=by
 obtain⟨g,c,d,G,A,n,E,td,H,q,I,v,O,T,J,K,y,j,r,L⟩:=h;refine⟨g,d,q,I,?_⟩;have l:p<w.heap.size:=JA v;have N:=cell_of_row w p 0 _ _ (0,0) v;have Q:=cell_of_row w p 1 _ _ (0,0) v;have R:=cell_of_row w p 2 _ _ (0,0) v;have t:w.cell? (cA p 0)=some (.slice (some (cA g 0)) (d+1) c):=N;have z:w.cell? (cA p 1)=some (.bool nm.isSome):=Q;have C:w.cell? (cA p 2)=some (.slice A n E):=R;obtain⟨S,U,F⟩:=LX O (i:=d) dA;obtain⟨hm,D,s,M⟩:=y d dA dA;rw[nR q];have V:=M.lt;obtain⟨A',n',c9,W,_,_,_,_,X⟩:=T.slice;injection W with e1 e2 e3;subst e1;subst e2;subst e3;have Y:decide (QI nm a.toList 0=0)=true↔nm.isSome=true/\n<8/\a∉td:=by
  rw[decide_eq_true_iff];cases nm with
  |none=>simp[QI]
  |some ns=>
   have j:td.map (·.toList)=ns:=j;have hl:ns.length=n:=(by rw[<-j,List.length_map,r]);have u:a.toList∈ns↔a∈td:=by
    rw[<-j,List.mem_map];exact⟨fun⟨x,hx,e⟩=>toList_inj e▸hx,fun h=>⟨a,h,rfl⟩⟩
   rw[RM];constructor
   ·intro h;split at h
    ·cases h
    ·rename_i hno;exact⟨rfl,by omega,fun e=>hno (.inl (u.2 e))⟩
   ·rintro⟨_,h8,Z⟩;rw[if_neg];rintro(e|e)
    ·exact Z (u.1 e)
    ·omega
 refine⟨fun o f=>?_,fun o f=>?_,fun o f=>?_,fun o f=>?_,fun o f=>?_⟩
 ·exact kg p n E A nm.isSome td a o Y ((f.cell (p:=(cA p 1)) l).trans z) ((f.cell (p:=(cA p 2)) l).trans C) r dA (X.on f)
 ·exact VQ p d c _ o ((f.cell (p:=(cA p 0)) l).trans t) dA
 ·exact q9 p g d c o ((f.cell (p:=(cA p 0)) l).trans t) dA
 ·refine PU g (d*2) G[d].m k s (yG P[d]) b o ((f.cell (p:=⟨g,d*2,none⟩) F).trans S) (M.below f V) hb ?_;rfl
 ·rw[<-D];exact(f.cell (p:=⟨g,d*2+1,none⟩) F).trans U
def codeF(bm bt rt sk kb rk:Bool)(op:Int)(d:Nat):Nat:=
 if bm=false then 7 else if bt=true then(if rt=true then 0 else 9) else if op=2 then(if d=0 then 8 else 0) else if sk=true then 11 else if(kb&&rk)=true then 10 else if op=1/\d=8 then 12 else 0
theorem GY{P:List (List In)}{nm:Option (List (uA))}{d:Nat}(hP:P.length=d+1)(hd:d<=8)(x:In):
 mJ P nm x=codeF (UB x) (bD x.op) (decide (QI nm x.a.toList 0=0)) (yI (DF P)) (iE x) (wJ (DF P) x.b.toList) x.op d:=by
 have a:QI nm x.a.toList 0=if decide (QI nm x.a.toList 0=0)=true then 0 else 9:=by
  cases nm with
  |none=>rfl
  |some ns=>
   rw[RM];split<;>simp
 have b:(FE x.op && !x.b.toList.isEmpty&&(DF P).any (vS x))=(iE x&&wJ (DF P) x.b.toList):=by
  unfold iE wJ vS;cases FE x.op<;>cases x.b.toList.isEmpty<;>simp
 unfold mJ codeF;rw[b];have c:(P.length<=1)=(d=0):=(by simp only[eq_iff_iff];omega);have e:(9<=P.length)=(d=8):=(by simp only[eq_iff_iff];omega);simp only[c,e];rw[show((DF P).any fun y=>decide (y.op=7))=yI (DF P) from rfl];split
 ·rfl
 split
 ·exact a
 rfl
theorem Ik{w:World}{B p k:Nat}{P:List (List In)}{nm:Option (List (uA))}(h:xJ w B p k P nm)(hk:k<=1000)(i:In)(ha:i.a.size<=300)(hb:i.b.size<=300):
 jA 224 #[lA p,.agg #[aA i.op,bA i.a,bA i.b]] w fun e w'=>e= .returned (QA (mJ P nm i:Nat))/\fA w w':=by
 obtain⟨o,a,b⟩:=i;have ha:a.size<=300:=ha;have hb:b.size<=300:=hb;obtain⟨g,d,hP,hd,C⟩:=Bv h hk a b TG;have hw:=GY (nm:=nm) hP hd ⟨o,a,b⟩;simp only at hw;have X:Hid (∀u,jA 198 #[.agg #[aA o,bA a,bA b]] u fun e w'=>e= .returned (.bool (UB ⟨o,a,b⟩))/\fA u w'):=Zh (fun u=>Tc ⟨o,a,b⟩ u (Nat.le_trans ha dA) (Nat.le_trans hb dA));have E:Hid (∀u,jA 249 #[aA o] u fun e w'=>e= .returned (.bool (bD o))/\u=w'):=Zh (fun u=>JU o u rfl);have HK:Hid (∀u,jA 252 #[.agg #[aA o,bA a,bA b]] u fun e w'=>e= .returned (.bool (iE ⟨o,a,b⟩))/\fA u w'):=Zh (fun u=>ZZ o a b u);have Y:Hid (bD o=true->(o==2)=false/\(o != 2)=true/\(o==1)=false/\iE ⟨o,a,b⟩=false):=Zh (fun e=>by
  simp only[bD,decide_eq_true_eq] at e;refine⟨int_ne dA,by rw[bne,int_ne dA];rfl,int_ne dA,?_⟩;simp only[iE,FE];rw[decide_eq_false dA];rfl)
 have R:Hid (o=2->iE ⟨o,a,b⟩=false):=Zh (fun e=>by subst e;rfl);rw[hw];clear hw h ha hb hk;have F:=Zh C;clear C;generalize UB ⟨o,a,b⟩=bm at X|-;generalize bD o=bt at E Y|-;generalize decide (QI nm a.toList 0=0)=rt at F|-;generalize yI (DF P)=sk at F|-;generalize wJ (DF P) b.toList=Z at F|-;generalize iE ⟨o,a,b⟩=kb at HK Y R|-;generalize nm.isSome=a3 at F;clear hP nm P;obtain⟨y,I⟩:=DA (codeF bm bt rt sk kb Z o d);rw[I];have A:=Zh I;clear I;have J:Hid (fA w (w.alloc (.cells #[aA o,bA a,bA b] 183))):=Zh (Zb _ _);have H:Hid (XB (w.alloc (.cells #[aA o,bA a,bA b] 183)) w.heap.size ⟨o,a,b⟩):=Zh (XB.new w ⟨o,a,b⟩);go_enter func224,ntmps224;go_upto_region 1 with fail;generalize w.alloc (.cells #[aA o,bA a,bA b] 183)=W at J H|-;have a0:w.heap.size<=w.heap.size:=Zl;obtain⟨x,hx⟩:∃x,x=w.heap.size:=⟨_,rfl⟩;have HX:=Zh hx;rw[<-hx] at H|-;clear hx a0;have c0:=H.c0;have c1:=H.c1;have c2:=H.c2;simp only at c0 c1 c2;cases bm with
 |false=>
  obtain rfl:y=7:=by rw[<-A.out];rfl
  go_wp2_with fail;refine(X _).mono ?_;rintro e l ⟨rfl,T⟩;go_wp2_with fail;go_ret;exact⟨rfl,J.trans (T.mono J.size)⟩
 |true=>
 go_wp2_with fail;refine(X _).mono ?_;rintro e l ⟨rfl,T⟩;have s:=Zh (J.trans (T.mono J.size));have L:=Zh (H.below T H.lt);clear T c0 c1 c2 H J X;have c0:=L.c0;have c1:=L.c1;have c2:=L.c2;simp only at c0 c1 c2;have f:Hid (∀m,fA l m->m.cell? (cA x 0)=some (aA o)/\m.cell? (cA x 1)=some (bA a)/\m.cell? (cA x 2)=some (bA b)):=Zh (fun m h=>by
  have N:=L.below h L.lt;exact⟨N.c0,N.c1,N.c2⟩)
 have c:Hid (fA l l):=Zh Ze;have M:Hid (∀m,fA l m->fA w m):=Zh (fun m h=>s.trans (h.mono s.size));have CT:Hid (∀m,fA l m->jA 250 #[lA p,bA a] m fun e w'=>e= .returned (.bool rt)/\m=w'):=Zh (fun m h=>F.T m (M m h));have O:Hid (∀m,fA l m->jA 226 #[lA p] m fun e w'=>e= .returned (aA d)/\m=w'):=Zh (fun m h=>F.D m (M m h));have Q:Hid (∀m,fA l m->jA 251 #[lA p] m fun e w'=>e= .returned (.pointer (some ⟨g,d*2,none⟩))/\∃j,w'=m.drewN j):=Zh (fun m h=>F.H m (M m h));have G:Hid (∀m,fA l m->jA 253 #[.pointer (some ⟨g,d*2,none⟩),bA b] m fun e w'=>e= .returned (.bool Z)/\fA m w'):=Zh (fun m h=>F.S m (M m h));have t:Hid (∀m,fA l m->jA 252 #[.agg #[aA o,bA a,bA b]] m fun e w'=>e= .returned (.bool kb)/\fA m w'):=Zh (fun m _=>HK m);have KS:Hid (∀m,fA l m->m.cell? ⟨g,d*2+1,none⟩=some (.bool sk)):=Zh (fun m h=>F.K m (M m h));clear M F HK L;cases bt with
 |true=>
  obtain⟨q2,U,q1,rfl⟩:=Y rfl;cases rt with
  |false=>
   obtain rfl:y=9:=by rw[<-A.out];rfl
   go_wp2_with fail;refine PA (E _) ?_;go_wp2_with fail;refine PA (CT _ c) ?_;go_wp2_with fail;go_ret;exact⟨rfl,s⟩
  |true=>
   obtain rfl:y=0:=by rw[<-A.out];rfl
   go_wp2_with fail;refine PA (E _) ?_;go_wp2_with fail;refine PA (CT _ c) ?_;go_wp2_with fail;refine(E _).mono ?_;rintro e w' ⟨rfl,rfl⟩;go_upto_region 9 with fail;refine wp_region_held_drew (S:=fun w'=>w'.cell? (cA x 0)=some (aA o)/\w'.cell? (cA x 1)=some (bA a)/\w'.cell? (cA x 2)=some (bA b)) (by kernel_rfl) (f _ (QC c)) (fun hHeld=>?_)
   repeat' (first
    |refine Zu 0 51 ?_
    |refine Zu 2 53 ?_
    |refine Zu 8 59 ?_
    |refine Zu 9 50 ?_
    |refine Zj 3 54 ?_
    |refine Zj 4 55 ?_
    |refine Zj 5 56 ?_
    |refine Zj 6 57 ?_
    |refine Zj 7 58 ?_
    |refine Zq [1] ?_
    |refine AllReadyH.cons rfl (fun K hK=>?_) ?_
    |exact AllReadyH.nil
    |(rw[if_pos (by rfl)]
      go_simp;go_at_call 252;refine(t _ (by first|exact c|exact QC c)).mono ?_;rintro e r ⟨rfl,n⟩;have c:Hid (fA l r):=Zh (by first|exact bF n c|exact bF n (QC c));clear n;refine hK _ _ ?_ (fun hHeld=>?_)
      ·exact f _ c
      clear hK K;(try simp only[Zs]))
    |(refine wpAnyH_done (by decide +kernel) ?_ _
      (try simp only[Act.put,List.getElem_toArray,List.getElem_cons_succ,List.getElem_cons_zero,List.setIfInBounds_toArray,List.set_cons_zero,List.set_cons_succ]);go_wp2_with fail;go_ret;exact⟨rfl,s.trans (c.mono s.size)⟩))
 |false=>
  clear Y;by_cases D:o=2
  ·have q2:(o==2)=true:=int_eq D;have U:(o != 2)=false:=(by rw[bne,q2];rfl);have q1:(o==1)=false:=int_ne dA;obtain rfl:=R D;by_cases h0:d=0
   ·subst h0;obtain rfl:y=8:=by rw[<-A.out];simp[codeF,D]
    clear A D;go_wp2_with fail;refine PA (E _) ?_;go_wp2_with fail;refine PA (O _ c) ?_;go_wp2_with fail;go_ret;exact⟨rfl,s⟩
   ·have q0:((d:Int)==0)=false:=int_ne dA;obtain rfl:y=0:=by rw[<-A.out];simp[codeF,D,h0]
    clear A D h0;go_wp2_with fail;refine PA (E _) ?_;go_wp2_with fail;refine(O _ c).mono ?_;rintro e w' ⟨rfl,rfl⟩;go_upto_region 9 with fail;refine wp_region_held_drew (S:=fun w'=>w'.cell? (cA x 0)=some (aA o)/\w'.cell? (cA x 1)=some (bA a)/\w'.cell? (cA x 2)=some (bA b)) (by kernel_rfl) (f _ (QC c)) (fun hHeld=>?_)
    repeat' (first
     |refine Zu 0 51 ?_
     |refine Zu 2 53 ?_
     |refine Zu 8 59 ?_
     |refine Zu 9 50 ?_
     |refine Zj 3 54 ?_
     |refine Zj 4 55 ?_
     |refine Zj 5 56 ?_
     |refine Zj 6 57 ?_
     |refine Zj 7 58 ?_
     |refine Zq [1] ?_
     |refine AllReadyH.cons rfl (fun K hK=>?_) ?_
     |exact AllReadyH.nil
     |(rw[if_pos (by rfl)]
       go_simp;go_at_call 252;refine(t _ (by first|exact c|exact QC c)).mono ?_;rintro e r ⟨rfl,n⟩;have c:Hid (fA l r):=Zh (by first|exact bF n c|exact bF n (QC c));clear n;refine hK _ _ ?_ (fun hHeld=>?_)
       ·exact f _ c
       clear hK K;(try simp only[Zs]))
     |(refine wpAnyH_done (by decide +kernel) ?_ _
       (try simp only[Act.put,List.getElem_toArray,List.getElem_cons_succ,List.getElem_cons_zero,List.setIfInBounds_toArray,List.set_cons_zero,List.set_cons_succ]);go_wp2_with fail;go_ret;exact⟨rfl,s.trans (c.mono s.size)⟩))
  ·have q2:(o==2)=false:=int_ne D;have U:(o != 2)=true:=(by rw[bne,q2];rfl);have ks:=KS _ c;cases sk with
   |true=>
    obtain rfl:y=11:=by rw[<-A.out];simp[codeF,D]
    clear A D;go_wp2_with fail;refine PA (E _) ?_;go_wp2_with fail;refine PA (E _) ?_;go_wp2_with fail;refine(Q _ c).mono ?_;rintro e r ⟨rfl,V,q⟩;have c:Hid (fA l r):=Zh (q▸cH c _);have ks:=KS _ c;clear q;go_wp2_with fail;go_ret;exact⟨rfl,s.trans (c.mono s.size)⟩
   |false=>
    obtain⟨z1,a1⟩:=DA ((o==1));obtain⟨z8,a2⟩:=DA (((d:Int)==8));have v:Hid (y=if(kb&&Z)=true then 10 else if(z1&&z8)=true then 12 else 0):=Zh (by
     rw[<-A.out,<-a1,<-a2];have e:(o=1/\d=8)=(((o==1)&&((d:Int)==8))=true):=by
      simp only[Bool.and_eq_true,beq_iff_eq,eq_iff_iff];omega
     simp only[codeF,D,e];rfl)
    clear A D;go_wp2_with fail;refine PA (E _) ?_;go_wp2_with fail;refine(E _).mono ?_;rintro e w' ⟨rfl,rfl⟩;go_wp2_with fail;refine(Q _ c).mono ?_;rintro e r ⟨rfl,V,q⟩;have c:Hid (fA l r):=Zh (q▸cH c _);have ks:=KS _ c;clear q;go_upto_region 9 with fail;clear ks;cases kb with
    |false=>
     cases z1 with
     |false=>
      obtain rfl:y=0:=by rw[v.out];rfl
      refine wp_region_held_drew (S:=fun w'=>w'.cell? (cA x 0)=some (aA o)/\w'.cell? (cA x 1)=some (bA a)/\w'.cell? (cA x 2)=some (bA b)) (by kernel_rfl) (f _ (QC c)) (fun hHeld=>?_)
      repeat' (first
       |refine Zu 0 51 ?_
       |refine Zu 2 53 ?_
       |refine Zu 8 59 ?_
       |refine Zu 9 50 ?_
       |refine Zj 3 54 ?_
       |refine Zj 4 55 ?_
       |refine Zj 5 56 ?_
       |refine Zj 6 57 ?_
       |refine Zj 7 58 ?_
       |refine Zq [1] ?_
       |refine AllReadyH.cons rfl (fun K hK=>?_) ?_
       |exact AllReadyH.nil
       |(rw[if_pos (by rfl)]
         go_simp;go_at_call 252;refine(t _ (by first|exact c|exact QC c)).mono ?_;rintro e r ⟨rfl,n⟩;have c:Hid (fA l r):=Zh (by first|exact bF n c|exact bF n (QC c));clear n;refine hK _ _ ?_ (fun hHeld=>?_)
         ·exact f _ c
         clear hK K;(try simp only[Zs]))
       |(refine wpAnyH_done (by decide +kernel) ?_ _
         (try simp only[Act.put,List.getElem_toArray,List.getElem_cons_succ,List.getElem_cons_zero,List.setIfInBounds_toArray,List.set_cons_zero,List.set_cons_succ]);go_wp2_with fail;go_ret;exact⟨rfl,s.trans (c.mono s.size)⟩))
     |true=>
      cases z8 with
      |false=>
       obtain rfl:y=0:=by rw[v.out];rfl
       refine wp_region_held_drew (S:=fun w'=>w'.cell? (cA x 0)=some (aA o)/\w'.cell? (cA x 1)=some (bA a)/\w'.cell? (cA x 2)=some (bA b)) (by kernel_rfl) (f _ (QC c)) (fun hHeld=>?_)
       repeat' (first
        |refine Zu 0 51 ?_
        |refine Zu 2 53 ?_
        |refine Zu 8 59 ?_
        |refine Zu 9 50 ?_
        |refine Zj 3 54 ?_
        |refine Zj 4 55 ?_
        |refine Zj 5 56 ?_
        |refine Zj 6 57 ?_
        |refine Zj 7 58 ?_
        |refine Zq [1] ?_
        |refine AllReadyH.cons rfl (fun K hK=>?_) ?_
        |exact AllReadyH.nil
        |(rw[if_pos (by rfl)]
          go_simp;go_at_call 252;refine(t _ (by first|exact c|exact QC c)).mono ?_;rintro e r ⟨rfl,n⟩;have c:Hid (fA l r):=Zh (by first|exact bF n c|exact bF n (QC c));clear n;refine hK _ _ ?_ (fun hHeld=>?_)
          ·exact f _ c
          clear hK K;(try simp only[Zs]))
        |(refine wpAnyH_done (by decide +kernel) ?_ _
          (try simp only[Act.put,List.getElem_toArray,List.getElem_cons_succ,List.getElem_cons_zero,List.setIfInBounds_toArray,List.set_cons_zero,List.set_cons_succ]);go_wp2_with fail;refine(O _ c).mono ?_;rintro e w' ⟨rfl,rfl⟩;go_wp2_with fail;go_ret;exact⟨rfl,s.trans (c.mono s.size)⟩))
      |true=>
       obtain rfl:y=12:=by rw[v.out];rfl
       refine wp_region_held_drew (S:=fun w'=>w'.cell? (cA x 0)=some (aA o)/\w'.cell? (cA x 1)=some (bA a)/\w'.cell? (cA x 2)=some (bA b)) (by kernel_rfl) (f _ (QC c)) (fun hHeld=>?_)
       repeat' (first
        |refine Zu 0 51 ?_
        |refine Zu 2 53 ?_
        |refine Zu 8 59 ?_
        |refine Zu 9 50 ?_
        |refine Zj 3 54 ?_
        |refine Zj 4 55 ?_
        |refine Zj 5 56 ?_
        |refine Zj 6 57 ?_
        |refine Zj 7 58 ?_
        |refine Zq [1] ?_
        |refine AllReadyH.cons rfl (fun K hK=>?_) ?_
        |exact AllReadyH.nil
        |(rw[if_pos (by rfl)]
          go_simp;go_at_call 252;refine(t _ (by first|exact c|exact QC c)).mono ?_;rintro e r ⟨rfl,n⟩;have c:Hid (fA l r):=Zh (by first|exact bF n c|exact bF n (QC c));clear n;refine hK _ _ ?_ (fun hHeld=>?_)
          ·exact f _ c
          clear hK K;(try simp only[Zs]))
        |(refine wpAnyH_done (by decide +kernel) ?_ _
          (try simp only[Act.put,List.getElem_toArray,List.getElem_cons_succ,List.getElem_cons_zero,List.setIfInBounds_toArray,List.set_cons_zero,List.set_cons_succ]);go_wp2_with fail;refine(O _ c).mono ?_;rintro e w' ⟨rfl,rfl⟩;go_wp2_with fail;go_ret;exact⟨rfl,s.trans (c.mono s.size)⟩))
    |true=>
     cases Z with
     |true=>
      obtain rfl:y=10:=by rw[v.out];rfl
      refine wp_region_held_drew (S:=fun w'=>w'.cell? (cA x 0)=some (aA o)/\w'.cell? (cA x 1)=some (bA a)/\w'.cell? (cA x 2)=some (bA b)) (by kernel_rfl) (f _ (QC c)) (fun hHeld=>?_)
      repeat' (first
       |refine Zu 0 51 ?_
       |refine Zu 2 53 ?_
       |refine Zu 3 54 ?_
       |refine Zu 5 56 ?_
       |refine Zu 6 57 ?_
       |refine Zu 8 59 ?_
       |refine Zu 9 50 ?_
       |refine Zq [1] ?_
       |refine Zq [4] ?_
       |refine Zq [7] ?_
       |refine AllReadyH.cons rfl (fun K hK=>?_) ?_
       |exact AllReadyH.nil
       |(rw[if_pos (by rfl)]
         go_simp;go_at_call 252;refine(t _ (by first|exact c|exact QC c)).mono ?_;rintro e r ⟨rfl,n⟩;have c:Hid (fA l r):=Zh (by first|exact bF n c|exact bF n (QC c));clear n;refine hK _ _ ?_ (fun hHeld=>?_)
         ·exact f _ c
         clear hK K;(try simp only[Zs]))
       |(rw[if_pos (by rfl)]
         go_simp;go_at_call 251;refine(Q _ (by first|exact c|exact QC c)).mono ?_;rintro e r ⟨rfl,V,q⟩;have c:Hid (fA l r):=Zh (by first|exact q▸cH c _|exact q▸cH (QC c) _);clear q;refine hK _ _ ?_ (fun hHeld=>?_)
         ·exact f _ c
         clear hK K;(try simp only[Zs]))
       |(rw[if_pos (by rfl)]
         go_simp;go_at_call 253;refine(G _ (by first|exact c|exact QC c)).mono ?_;rintro e r ⟨rfl,n⟩;have c:Hid (fA l r):=Zh (by first|exact bF n c|exact bF n (QC c));clear n;refine hK _ _ ?_ (fun hHeld=>?_)
         ·exact f _ c
         clear hK K;(try simp only[Zs]))
       |(refine wpAnyH_done (by decide +kernel) ?_ _
         (try simp only[Act.put,List.getElem_toArray,List.getElem_cons_succ,List.getElem_cons_zero,List.setIfInBounds_toArray,List.set_cons_zero,List.set_cons_succ]);go_wp2_with fail;go_ret;exact⟨rfl,s.trans (c.mono s.size)⟩))
     |false=>
      cases z1 with
      |false=>
       obtain rfl:y=0:=by rw[v.out];rfl
       refine wp_region_held_drew (S:=fun w'=>w'.cell? (cA x 0)=some (aA o)/\w'.cell? (cA x 1)=some (bA a)/\w'.cell? (cA x 2)=some (bA b)) (by kernel_rfl) (f _ (QC c)) (fun hHeld=>?_)
       repeat' (first
        |refine Zu 0 51 ?_
        |refine Zu 2 53 ?_
        |refine Zu 3 54 ?_
        |refine Zu 5 56 ?_
        |refine Zu 6 57 ?_
        |refine Zu 8 59 ?_
        |refine Zu 9 50 ?_
        |refine Zq [1] ?_
        |refine Zq [4] ?_
        |refine Zq [7] ?_
        |refine AllReadyH.cons rfl (fun K hK=>?_) ?_
        |exact AllReadyH.nil
        |(rw[if_pos (by rfl)]
          go_simp;go_at_call 252;refine(t _ (by first|exact c|exact QC c)).mono ?_;rintro e r ⟨rfl,n⟩;have c:Hid (fA l r):=Zh (by first|exact bF n c|exact bF n (QC c));clear n;refine hK _ _ ?_ (fun hHeld=>?_)
          ·exact f _ c
          clear hK K;(try simp only[Zs]))
        |(rw[if_pos (by rfl)]
          go_simp;go_at_call 251;refine(Q _ (by first|exact c|exact QC c)).mono ?_;rintro e r ⟨rfl,V,q⟩;have c:Hid (fA l r):=Zh (by first|exact q▸cH c _|exact q▸cH (QC c) _);clear q;refine hK _ _ ?_ (fun hHeld=>?_)
          ·exact f _ c
          clear hK K;(try simp only[Zs]))
        |(rw[if_pos (by rfl)]
          go_simp;go_at_call 253;refine(G _ (by first|exact c|exact QC c)).mono ?_;rintro e r ⟨rfl,n⟩;have c:Hid (fA l r):=Zh (by first|exact bF n c|exact bF n (QC c));clear n;refine hK _ _ ?_ (fun hHeld=>?_)
          ·exact f _ c
          clear hK K;(try simp only[Zs]))
        |(refine wpAnyH_done (by decide +kernel) ?_ _
          (try simp only[Act.put,List.getElem_toArray,List.getElem_cons_succ,List.getElem_cons_zero,List.setIfInBounds_toArray,List.set_cons_zero,List.set_cons_succ]);go_wp2_with fail;go_ret;exact⟨rfl,s.trans (c.mono s.size)⟩))
      |true=>
       cases z8 with
       |false=>
        obtain rfl:y=0:=by rw[v.out];rfl
        refine wp_region_held_drew (S:=fun w'=>w'.cell? (cA x 0)=some (aA o)/\w'.cell? (cA x 1)=some (bA a)/\w'.cell? (cA x 2)=some (bA b)) (by kernel_rfl) (f _ (QC c)) (fun hHeld=>?_)
        repeat' (first
         |refine Zu 0 51 ?_
         |refine Zu 2 53 ?_
         |refine Zu 3 54 ?_
         |refine Zu 5 56 ?_
         |refine Zu 6 57 ?_
         |refine Zu 8 59 ?_
         |refine Zu 9 50 ?_
         |refine Zq [1] ?_
         |refine Zq [4] ?_
         |refine Zq [7] ?_
         |refine AllReadyH.cons rfl (fun K hK=>?_) ?_
         |exact AllReadyH.nil
         |(rw[if_pos (by rfl)]
           go_simp;go_at_call 252;refine(t _ (by first|exact c|exact QC c)).mono ?_;rintro e r ⟨rfl,n⟩;have c:Hid (fA l r):=Zh (by first|exact bF n c|exact bF n (QC c));clear n;refine hK _ _ ?_ (fun hHeld=>?_)
           ·exact f _ c
           clear hK K;(try simp only[Zs]))
         |(rw[if_pos (by rfl)]
           go_simp;go_at_call 251;refine(Q _ (by first|exact c|exact QC c)).mono ?_;rintro e r ⟨rfl,V,q⟩;have c:Hid (fA l r):=Zh (by first|exact q▸cH c _|exact q▸cH (QC c) _);clear q;refine hK _ _ ?_ (fun hHeld=>?_)
           ·exact f _ c
           clear hK K;(try simp only[Zs]))
         |(rw[if_pos (by rfl)]
           go_simp;go_at_call 253;refine(G _ (by first|exact c|exact QC c)).mono ?_;rintro e r ⟨rfl,n⟩;have c:Hid (fA l r):=Zh (by first|exact bF n c|exact bF n (QC c));clear n;refine hK _ _ ?_ (fun hHeld=>?_)
           ·exact f _ c
           clear hK K;(try simp only[Zs]))
         |(refine wpAnyH_done (by decide +kernel) ?_ _
           (try simp only[Act.put,List.getElem_toArray,List.getElem_cons_succ,List.getElem_cons_zero,List.setIfInBounds_toArray,List.set_cons_zero,List.set_cons_succ]);go_wp2_with fail;refine(O _ c).mono ?_;rintro e w' ⟨rfl,rfl⟩;go_wp2_with fail;go_ret;exact⟨rfl,s.trans (c.mono s.size)⟩))
       |true=>
        obtain rfl:y=12:=by rw[v.out];rfl
        refine wp_region_held_drew (S:=fun w'=>w'.cell? (cA x 0)=some (aA o)/\w'.cell? (cA x 1)=some (bA a)/\w'.cell? (cA x 2)=some (bA b)) (by kernel_rfl) (f _ (QC c)) (fun hHeld=>?_)
        repeat' (first
         |refine Zu 0 51 ?_
         |refine Zu 2 53 ?_
         |refine Zu 3 54 ?_
         |refine Zu 5 56 ?_
         |refine Zu 6 57 ?_
         |refine Zu 8 59 ?_
         |refine Zu 9 50 ?_
         |refine Zq [1] ?_
         |refine Zq [4] ?_
         |refine Zq [7] ?_
         |refine AllReadyH.cons rfl (fun K hK=>?_) ?_
         |exact AllReadyH.nil
         |(rw[if_pos (by rfl)]
           go_simp;go_at_call 252;refine(t _ (by first|exact c|exact QC c)).mono ?_;rintro e r ⟨rfl,n⟩;have c:Hid (fA l r):=Zh (by first|exact bF n c|exact bF n (QC c));clear n;refine hK _ _ ?_ (fun hHeld=>?_)
           ·exact f _ c
           clear hK K;(try simp only[Zs]))
         |(rw[if_pos (by rfl)]
           go_simp;go_at_call 251;refine(Q _ (by first|exact c|exact QC c)).mono ?_;rintro e r ⟨rfl,V,q⟩;have c:Hid (fA l r):=Zh (by first|exact q▸cH c _|exact q▸cH (QC c) _);clear q;refine hK _ _ ?_ (fun hHeld=>?_)
           ·exact f _ c
           clear hK K;(try simp only[Zs]))
         |(rw[if_pos (by rfl)]
           go_simp;go_at_call 253;refine(G _ (by first|exact c|exact QC c)).mono ?_;rintro e r ⟨rfl,n⟩;have c:Hid (fA l r):=Zh (by first|exact bF n c|exact bF n (QC c));clear n;refine hK _ _ ?_ (fun hHeld=>?_)
           ·exact f _ c
           clear hK K;(try simp only[Zs]))
         |(refine wpAnyH_done (by decide +kernel) ?_ _
           (try simp only[Act.put,List.getElem_toArray,List.getElem_cons_succ,List.getElem_cons_zero,List.setIfInBounds_toArray,List.set_cons_zero,List.set_cons_succ]);go_wp2_with fail;refine PA (O _ c) ?_;go_wp2_with fail;go_ret;exact⟨rfl,s.trans (c.mono s.size)⟩))
structure Fr(w:World)(B p k g c d:Nat)(A:vA)(n c':Nat)(tl:Bool)(ps:List Pl)(td:List qA)(P:List (List In)):Prop where
 base:B<=p
 len:P.length=d+1
 d8:d<=8
 zA:w.heap[p]? = some (.cells #[.slice (some (cA g 0)) (d+1) c,.bool tl,.slice A n c'] 306 (0,0))
 own:aI.Own w B (.slice (some (cA g 0)) (d+1) c) ps
 told:uI.Own w B (.slice A n c') td
 pl:ps.length=d+1
 nd:(ps.map Pl.m).Nodup
 at_:∀i (h:i<ps.length) (h2:i<P.length),B<=ps[i].m/\ps[i].sk=yI P[i]/\∃s,zC prog 9 w ps[i].m k s (yG P[i])
 yJ:td.length=n
 nk:n<=k
theorem xJ.fr{w:World}{B p k:Nat}{P:List (List In)}{nm:Option (List (uA))}(h:xJ w B p k P nm):
 ∃g c d A n c' ps td,Fr w B p k g c d A n c' nm.isSome ps td P/\td.map (·.toList)=nm.getD []:=by
 obtain⟨g,c,d,ps,A,n,c',td,f,i,j,l,m,o,q,r,s,a,b,e⟩:=h;exact⟨g,c,d,A,n,c',ps,td,⟨f,i,j,l,m,o,q,r,s,b,e⟩,a⟩
section
variable{w w':World}{B p k g c d:Nat}{A:vA}{n c':Nat}{tl:Bool}{ps:List Pl}{td:List qA}{P:List (List In)}
theorem Fr.is{nm:Option (List (uA))}(h:Fr w B p k g c d A n c' tl ps td P)(ht:tl=nm.isSome)(hn:td.map (·.toList)=nm.getD []):xJ w B p k P nm:=by
 subst ht;exact⟨g,c,d,ps,A,n,c',td,h.base,h.len,h.d8,h.zA,h.own,h.told,h.pl,h.nd,h.at_,hn,h.yJ,h.nk⟩
theorem Fr.lt(h:Fr w B p k g c d A n c' tl ps td P):p<w.heap.size:=JA h.zA
theorem Fr.size(h:Fr w B p k g c d A n c' tl ps td P):B<=w.heap.size:=by have:=h.base;have:=h.lt;omega
theorem Fr.c0(h:Fr w B p k g c d A n c' tl ps td P):w.cell? (cA p 0)=some (.slice (some (cA g 0)) (d+1) c):=cell_of_row w p 0 _ _ (0,0) h.zA
theorem Fr.c1(h:Fr w B p k g c d A n c' tl ps td P):w.cell? (cA p 1)=some (.bool tl):=cell_of_row w p 1 _ _ (0,0) h.zA
theorem Fr.c2(h:Fr w B p k g c d A n c' tl ps td P):w.cell? (cA p 2)=some (.slice A n c'):=cell_of_row w p 2 _ _ (0,0) h.zA
theorem Fr.frozen(h:Fr w B p k g c d A n c' tl ps td P)(i:Nat):w.frozen? (cA p i)=false:=by simp[World.frozen?,h.zA]
theorem Fr.below(h:Fr w B p k g c d A n c' tl ps td P)(b:fA w w'):Fr w' B p k g c d A n c' tl ps td P:=
 ⟨h.base,h.len,h.d8,(b.block p h.lt).trans h.zA,h.own.below b Zl,h.told.below b Zl,h.pl,h.nd,fun i e f=>by
  obtain⟨j,l,s,a⟩:=h.at_ i e f;exact⟨j,l,s,a.below b a.lt⟩,h.yJ,h.nk⟩
theorem Fr.mono(h:Fr w B p k g c d A n c' tl ps td P){k':Nat}(hk:k<=k'):Fr w B p k' g c d A n c' tl ps td P:=
 ⟨h.base,h.len,h.d8,h.zA,h.own,h.told,h.pl,h.nd,fun i a b=>by
  obtain⟨e,f,s,j⟩:=h.at_ i a b;exact⟨e,f,s,j.mono hk⟩,h.yJ,by have:=h.nk;omega⟩
theorem Fr.nM(h:Fr w B p k g c d A n c' tl ps td P):g≠p:=by
 rintro rfl;obtain⟨x,hx⟩:=h.own.ty (g:=g) rfl;exact WA hx h.zA pA rfl
theorem Fr.TR(h:Fr w B p k g c d A n c' tl ps td P){j:Nat}(hj:(Value.slice A n c').ownBlock=some j):j≠p:=by
 rintro rfl;obtain⟨x,hx⟩:=h.told.ty hj;exact WA hx h.zA pA rfl
theorem Fr.qJ(h:Fr w B p k g c d A n c' tl ps td P){i:Nat}(h1:i<ps.length):ps[i].m≠p/\ps[i].m≠g/\∀j,(Value.slice A n c').ownBlock=some j->ps[i].m≠j:=by
 obtain⟨_,_,s,M⟩:=h.at_ i h1 (by have:=h.len;have:=h.pl;omega);obtain⟨e,f,a⟩:=M.zA;refine⟨UK a h.zA,?_,fun j b=>?_⟩
 ·obtain⟨x,hx⟩:=h.own.ty (g:=g) rfl;exact UK a hx
 ·obtain⟨x,hx⟩:=h.told.ty b;exact UK a hx
theorem Fr.m0(h:Fr w B p k g c d A n c' tl ps td P)(hb:∀i (h:i<ps.length),w'.heap[ps[i].m]? = w.heap[ps[i].m]?):
 ∀i (h:i<ps.length) (h2:i<P.length),B<=ps[i].m/\ps[i].sk=yI P[i]/\∃s,zC prog 9 w' ps[i].m k s (yG P[i]):=fun i a h2=>by
 obtain⟨b,e,s,f⟩:=h.at_ i a h2;exact⟨b,e,s,f.kept (hb i a)⟩
theorem Fr.tell{a:qA}{A2:vA}{n2 c2:Nat}(h:Fr w B p k g c d A n c' tl ps td P)(hg:w.grownBy w' (Value.slice A n c').ownBlock)(ho:uI.Own w' B (.slice A2 n2 c2) (td++[a]))(hn2:n2=n+1):
 Fr (w'.setCell (cA p 2) (.slice A2 n2 c2)) B p (k+1) g c d A2 n2 c2 tl ps (td++[a]) P/\Below B w (w'.setCell (cA p 2) (.slice A2 n2 c2)):=by
 have o:iA (fun j=>(Value.slice A n c').ownBlock=some j) w w':=iA.WG hg (fun i q _=>q);have r:w'.heap[p]? = _:=(o.block p h.lt (fun e=>h.TR e rfl)).trans h.zA;have b:iA (fun j=>(Value.slice A n c').ownBlock=some j\/j=p) w (w'.setCell (cA p 2) (.slice A2 n2 c2)):=iA.setCell (o.mono fun _ _ e=> .inl e) (fun _=> .inr rfl) _;have f:(Value.slice A n c').ownBlock≠some g:=fun e=>by
  obtain⟨x,hx⟩:=h.own.ty (g:=g) rfl;obtain⟨y,t⟩:=h.told.ty e;exact WA hx t pA rfl
 have u:=h.size;refine⟨(Fr.mk h.base h.len h.d8 (heap_set r 2 _) ?_ ?_ h.pl h.nd ?_ (by rw[List.length_append,h.yJ,hn2];rfl) (IA h.nk)),?_⟩
 ·exact h.own.but b fun j l e=>by
   have:j=g:=(Option.some.inj l).symm;subst this;rcases e with e|e
   ·exact f e
   ·exact h.nM e
 ·exact ho.VB fun j l=>Below.heap_setCell _ _ _ _ (by
   rintro rfl;obtain⟨x,hx⟩:=ho.ty l;exact WA hx r pA rfl)
 ·have:=(h.mono (Nat.le_succ k)).m0 (w':=w'.setCell (cA p 2) (.slice A2 n2 c2)) (fun i m=>by
   obtain⟨_,_,s,M⟩:=h.at_ i m (by have:=h.len;have:=h.pl;omega);refine b.block _ M.lt ?_;rintro(e|e)
   ·exact(h.qJ m).2.2 _ e rfl
   ·exact(h.qJ m).1 e)
  exact this
 ·refine b.eD (fun i q e=>?_) u;rcases e with e|rfl
  ·exact(h.told.lt e).1
  ·exact h.base
theorem Fr.JS(h:Fr w B p k g c d A n c' tl ps td P)(t2:Bool):
 Fr ((w.setCell (cA p 1) (.bool t2)).setCell (cA p 2) (tA)) B p k g c d none 0 0 t2 ps [] P/\Below B w ((w.setCell (cA p 1) (.bool t2)).setCell (cA p 2) (tA)):=by
 have a:iA (fun j=>j=p) w ((w.setCell (cA p 1) (.bool t2)).setCell (cA p 2) (tA)):=iA.setCell (p:=(cA p 2)) (iA.setCell (p:=(cA p 1)) (iA.refl (fun j=>j=p) w) (fun _=>rfl) _) (fun _=>rfl) _;refine⟨(Fr.mk h.base h.len h.d8 (heap_set (heap_set h.zA 1 _) 2 _) ?_ (Kind.Own.nil _ _ _) h.pl h.nd ?_ rfl (Nat.zero_le _)),a.eD (fun i _ e=>by subst e;exact h.base) h.size⟩
 ·exact h.own.but a fun j f e=>by
   have:j=g:=(Option.some.inj f).symm;subst this;exact h.nM e
 ·exact h.m0 (fun i b=>by
   obtain⟨_,_,s,M⟩:=h.at_ i b (by have:=h.len;have:=h.pl;omega);exact a.block _ M.lt (h.qJ b).1)
theorem xp{l:List Nat}(h:l.Nodup){i j:Nat}(hi:i<l.length)(hj:j<l.length)(e:l[i]=l[j]):i=j:=by
 rcases Nat.lt_trichotomy i j with h1|h1|h1
 ·exact absurd e (List.pairwise_iff_getElem.1 h i j hi hj h1)
 ·exact h1
 ·exact absurd e.symm (List.pairwise_iff_getElem.1 h j i hj hi h1)
theorem yp{α:Type}{l:List α}{d:Nat}(h:l.length=d+1)(y:α):l.dropLast++[y]=l.set d y:=by
 refine List.ext_getElem (by simp[h]) fun i b a=>?_
 rw[List.getElem_set];have c:i<d+1:=(by simpa[h] using a);by_cases e:d=i
 ·subst e;rw[if_pos rfl,List.getElem_append_right (by simp[h])];simp[h]
 ·rw[if_neg e,List.getElem_append_left (by simp[h];omega),List.getElem_dropLast]
def IG(P:List (List In))(x:In):List (List In):=P.dropLast++[DF P++[x]]
theorem tK(h:P.length=d+1)(x:In):(IG P x).length=d+1:=by simp[IG,h]
theorem KU(h:P.length=d+1)(x:In){i:Nat}(h2:i<(IG P x).length):(IG P x)[i]=if h3:d=i then P[i]'dA++[x] else P[i]'(by rw[tK h] at h2;omega):=by
 have e:IG P x=P.set d (DF P++[x]):=(by rw[IG];exact yp h _);rw[List.getElem_of_eq e,List.getElem_set];by_cases a:d=i
 ·subst a;rw[if_pos rfl,dif_pos rfl,nR h]
 ·rw[if_neg a,dif_neg a]
theorem r9{L:List In}{x:In}(h:x.op≠7):yI (L++[x])=yI L:=by
 unfold yI;rw[List.any_append,List.any_cons,List.any_nil,Bool.or_false,decide_eq_false h,Bool.or_false]
theorem Jk{L:List In}{x:In}(h:x.op=7):yI (L++[x])=true:=by
 unfold yI;rw[List.any_append,List.any_cons,decide_eq_true h];simp
theorem Fr.LU{x:In}(h:Fr w B p k g c d A n c' tl ps td P)(hk:iE x=false)(h7:x.op≠7):Fr w B p k g c d A n c' tl ps td (IG P x):=by
 refine Fr.mk h.base (tK h.len x) h.d8 h.zA h.own h.told h.pl h.nd (fun i j a=>?_) h.yJ h.nk;obtain⟨b,e,s,f⟩:=h.at_ i j (by rw[tK h.len] at a;have:=h.len;omega);rw[KU h.len x a];split
 ·rw[r9 h7,YZ hk];exact⟨b,e,s,f⟩
 ·exact⟨b,e,s,f⟩
theorem Fr.map(h:Fr w B p k g c d A n c' tl ps td P):∃s,zC prog 9 w (ps[d]'(IA h.pl)).m k s (yG (DF P)):=by
 obtain⟨_,_,s,M⟩:=h.at_ d (IA h.pl) (IA h.len);rw[nR h.len];exact⟨s,M⟩
theorem Fr.Rb{x:In}{s':Nat}(h:Fr w B p k g c d A n c' tl ps td P)(h7:x.op≠7)(hg:w.grownBy w' (some (ps[d]'(IA h.pl)).m))(hm:zC prog 9 w' (ps[d]'(IA h.pl)).m (k+1) s' (yG (DF P++[x]))):
 Fr w' B p (k+1) g c d A n c' tl ps td (IG P x)/\Below B w w':=by
 have a:d<ps.length:=(IA h.pl);have b:iA (fun j=>j=ps[d].m) w w':=iA.WG hg (fun i v _=>(Option.some.inj v).symm);obtain⟨y,_,_,_⟩:=h.at_ d a (IA h.len);refine⟨Fr.mk h.base (tK h.len x) h.d8 ((b.block p h.lt (fun e=>(h.qJ a).1 e.symm)).trans h.zA) (h.own.but b fun j f e=>?_) (h.told.but b fun j f e=>(h.qJ a).2.2 j f e.symm) h.pl h.nd (fun i l q=>?_) h.yJ (IA h.nk),b.eD (fun i _ e=>by subst e;exact y) h.size⟩
 ·have:j=g:=(Option.some.inj f).symm;subst this;exact(h.qJ a).2.1 e.symm
 ·obtain⟨r,t,s,u⟩:=h.at_ i l (by rw[tK h.len] at q;have:=h.len;omega);rw[KU h.len x q];split
  ·rename_i e;subst e;rw[nR h.len] at hm;rw[r9 h7];exact⟨r,t,s',hm⟩
  ·rename_i e;refine⟨r,t,s,(u.mono (Nat.le_succ k)).kept (b.block _ u.lt ?_)⟩;intro z;have o:=h.nd;refine e ?_;have C:(ps.map Pl.m)[i]'(by simpa using l)=(ps.map Pl.m)[d]'(by simpa using a):=(by simpa using z);exact(xp o (by simpa using l) (by simpa using a) C).symm
theorem pX:∀(l:List Pl) (i:Nat) (h:i<l.length),aI.cells (l.set i ⟨l[i].m,true⟩)=(aI.cells l).set (i*2+1) (.bool true)
 |[],i,h=>by simp at h
 |a:: l,0,_=>by simp[Kind.cells,aI]
 |a:: l,i+1,h=>by
  have ih:=pX l i (by simpa using h);have e:∀(a:Pl) (l:List Pl),aI.cells (a:: l)= .map (some a.m):: .bool a.sk:: aI.cells l:=fun a l=>rfl
  rw[List.set_cons_succ,e,e,show(i+1)*2+1=(i*2+1)+1+1 by omega,List.set_cons_succ,List.set_cons_succ,<-ih];rfl
theorem Fr.skip{x:In}(h:Fr w B p k g c d A n c' tl ps td P)(h7:x.op=7):
 Fr (w.setCell ⟨g,d*2+1,none⟩ (.bool true)) B p (k+1) g c d A n c' tl (ps.set d ⟨(ps[d]'(IA h.pl)).m,true⟩) td (IG P x)/\Below B w (w.setCell ⟨g,d*2+1,none⟩ (.bool true)):=by
 have u:d<ps.length:=(IA h.pl);have b:iA (fun j=>j=g) w (w.setCell ⟨g,d*2+1,none⟩ (.bool true)):=iA.setCell (p:=⟨g,d*2+1,none⟩) (iA.refl (fun j=>j=g) w) (fun _=>rfl) _;have v:iE x=false:=(by simp[iE,FE,h7]);have l:B<=g:=(h.own.lt (g:=g) rfl).1;have z:(ps.set d ⟨ps[d].m,true⟩).map Pl.m=ps.map Pl.m:=by
  refine List.ext_getElem FA fun i o f=>?_
  rw[List.getElem_map,List.getElem_map,List.getElem_set];split
  ·rename_i e;subst e;rfl
  ·rfl
 refine⟨Fr.mk h.base (tK h.len x) h.d8 ((b.block p h.lt (fun e=>h.nM e.symm)).trans h.zA) ?_ (h.told.but b fun j C e=>?_) (by rw[List.length_set];exact h.pl) (by rw[z];exact h.nd) (fun i o f=>?_) h.yJ (IA h.nk),b.eD (fun i _ e=>by subst e;exact l) h.size⟩
 ·exact h.own.Ld h.pl (by rw[List.length_set]) (pX ps d u)
 ·subst e;obtain⟨x,hx⟩:=h.own.ty (g:=j) rfl;obtain⟨y,D⟩:=h.told.ty C;exact WA hx D pA rfl
 ·have a:i<ps.length:=(by rw[List.length_set] at o;exact o);obtain⟨q,E,s,r⟩:=h.at_ i a (by rw[tK h.len] at f;have:=h.len;omega);have t:zC prog 9 (w.setCell ⟨g,d*2+1,none⟩ (.bool true)) ps[i].m (k+1) s (yG (P[i]'(by rw[tK h.len] at f;have:=h.len;omega))):=(r.mono (Nat.le_succ k)).kept (b.block _ r.lt (h.qJ a).2.1);rw[KU h.len x f];by_cases e:d=i
  ·subst e;rw[dif_pos rfl,Jk h7,YZ v,List.getElem_set_self];exact⟨q,rfl,s,t⟩
  ·rw[dif_neg e,List.getElem_set_ne e];exact⟨q,E,s,t⟩
theorem Fr.push{g2 c2 n2 m:Nat}(h:Fr w B p k g c d A n c' tl ps td P)(hd7:d<=7)(hg:w.grownBy w' (some g))(ho:aI.Own w' B (.slice (some (cA g2 0)) n2 c2) (ps++[⟨m,false⟩]))(hn2:n2=d+1+1)
 (hm:zC prog 9 w m 0 0 (fun _=>none)) (hmB:B<=m) (hnew:∀i (h:i<ps.length),ps[i].m≠m):
 Fr (w'.setCell (cA p 0) (.slice (some (cA g2 0)) n2 c2)) B p k g2 c2 (d+1) A n c' tl (ps++[⟨m,false⟩]) td (P++[[]])/\Below B w (w'.setCell (cA p 0) (.slice (some (cA g2 0)) n2 c2)):=by
 subst hn2;have z:iA (fun j=>j=g) w w':=iA.WG hg (fun i f _=>(Option.some.inj f).symm);have C:w'.heap[p]? = _:=(z.block p h.lt (fun e=>h.nM e.symm)).trans h.zA;have r:iA (fun j=>j=g\/j=p) w (w'.setCell (cA p 0) (.slice (some (cA g2 0)) (d+1+1) c2)):=iA.setCell (z.mono fun _ _ e=> .inl e) (fun _=> .inr rfl) _;have u:B<=g:=(h.own.lt (g:=g) rfl).1;have l:m≠p/\m≠g:=by
  obtain⟨K,L,q⟩:=hm.zA;refine⟨UK q h.zA,?_⟩;obtain⟨x,hx⟩:=h.own.ty (g:=g) rfl;exact UK q hx
 refine⟨Fr.mk h.base (by rw[List.length_append,h.len];rfl) dA (heap_set C 0 _) (ho.VB fun j t=>?_) (h.told.but r fun j t e=>?_) (by rw[List.length_append,h.pl];rfl) ?_ (fun i D M=>?_) h.yJ h.nk,r.eD (fun i _ e=>?_) h.size⟩
 ·refine Below.heap_setCell _ _ _ _ ?_;rintro rfl;obtain⟨x,hx⟩:=ho.ty t;exact WA hx C pA rfl
 ·rcases e with e|e
  ·subst e;obtain⟨x,hx⟩:=h.own.ty (g:=j) rfl;obtain⟨y,F⟩:=h.told.ty t;exact WA hx F pA rfl
  ·exact h.TR t e
 ·rw[List.map_append,List.nodup_append];refine⟨h.nd,by simp,fun a G b q=>?_⟩;obtain⟨i,f,rfl⟩:=List.mem_iff_getElem.1 G;simp only[List.map_cons,List.map_nil,List.mem_singleton] at q;subst q;rw[List.getElem_map];exact hnew i (by simpa using f)
 ·by_cases f:i<ps.length
  ·have o:i<P.length:=(by have:=h.len;have:=h.pl;omega);obtain⟨H,I,s,E⟩:=h.at_ i f o;rw[List.getElem_append_left f,List.getElem_append_left o];refine⟨H,I,s,E.kept (r.block _ E.lt ?_)⟩;rintro(e|e)
   ·exact(h.qJ f).2.1 e
   ·exact(h.qJ f).1 e
  ·have o:¬i<P.length:=(by have:=h.len;have:=h.pl;omega);rw[List.getElem_append_right dA,List.getElem_append_right dA];have J:i-ps.length=0:=(by rw[List.length_append] at D;simp only[List.length_cons,List.length_nil] at D;omega);have v:i-P.length=0:=(by have:=h.len;have:=h.pl;omega);simp only[J,v,List.getElem_cons_zero];refine⟨hmB,rfl,0,?_⟩;rw[XZ];exact(hm.mono (Nat.zero_le k)).kept (r.block _ hm.lt (fun e=>e.elim l.2 l.1))
 ·rcases e with rfl|rfl
  ·exact u
  ·exact h.base
theorem u9{α:Type}{Pr:Program}{K:Kind Pr α}{w:World}{B:Nat}{v:Value}{l:List α}(h:K.Own w B v l)(hl:0<l.length):∃g n c,v= .slice (some (cA g 0)) n c/\l.length=n:=by
 rcases h.form with⟨_,rfl⟩|⟨g,c,_,hv,_⟩
 ·simp at hl
 ·exact⟨g,_,c,hv,rfl⟩
theorem Fr.cap(h:Fr w B p k g c d A n c' tl ps td P):d+1<=c:=by
 obtain⟨e,f,i,a,j,b,_,_,_⟩:=h.own.slice;injection a with h1 h2 h3;subst h2;subst h3;exact b
theorem Fr.place(h:Fr w B p k g c d A n c' tl ps td P):w.cell? ⟨g,d*2,none⟩=some (.map (some (ps[d]'(IA h.pl)).m))/\w.cell? ⟨g,d*2+1,none⟩=some (.bool (ps[d]'(IA h.pl)).sk)/\w.frozen? ⟨g,d*2+1,none⟩=false:=by
 obtain⟨a,b,_⟩:=LX h.own (i:=d) (IA h.pl);obtain⟨x,hx⟩:=h.own.ty (g:=g) rfl;exact⟨a,b,by simp[World.frozen?,hx]⟩
theorem Fr.pop{e:Nat}(h:Fr w B p k g c e A n c' tl ps td P)(he:e=d+1):
 Fr (w.setCell (cA p 0) (.slice (some (cA g 0)) e c)) B p k g c d A n c' tl (ps.take e) td P.dropLast/\Below B w (w.setCell (cA p 0) (.slice (some (cA g 0)) e c)):=by
 subst he;have a:iA (fun j=>j=p) w (w.setCell (cA p 0) (.slice (some (cA g 0)) (d+1) c)):=iA.setCell (p:=(cA p 0)) (iA.refl (fun j=>j=p) w) (fun _=>rfl) _;have o:=h.pl;have b:=h.len;refine⟨Fr.mk h.base (by rw[List.length_dropLast,b];rfl) (IA h.d8) (heap_set h.zA 0 _) ((ys h.own dA).but a fun j f e=>?_) (h.told.but a fun j f e=>h.TR f e) (by rw[List.length_take];omega) (by rw[List.map_take];exact(List.take_sublist _ _).nodup h.nd) (fun i q u=>?_) h.yJ h.nk,a.eD (fun i _ e=>by subst e;exact h.base) h.size⟩
 ·have:j=g:=(Option.some.inj f).symm;subst this;exact h.nM e
 ·have l:i<ps.length:=(by rw[List.length_take] at q;omega);obtain⟨r,t,s,m⟩:=h.at_ i l dA;rw[List.getElem_take,List.getElem_dropLast];exact⟨r,t,s,m.kept (a.block _ m.lt (h.qJ l).1)⟩
end
end P13
namespace P6
open Go.RowKit Kd P4 P5
variable{B p:Nat}{x:Dx}
def Zx(w:World)(C:Nat)(v:Value)(l:List Int)(e:Ending)(w':World):Prop:=
 ∃A n c,e= .returned (.slice A n c)/\kI.Own w' C (.slice A n c) l/\iA (fun k=>v.ownBlock=some k) w w'/\∀g,(Value.slice A n c).ownBlock=some g->v.ownBlock=some g\/w.heap.size<=g
def Dw(w:World)(C:Nat)(v kv:Value)(acc kids:List Int)(i:Int)(K:Int->List Int)(f nk:Nat)(s0 s27:Value)(wr:World):Prop:=
 ∃(j:Nat) (A:vA) (n c:Nat),s27 = aA j/\j<=nk/\s0= .slice A n c/\Hid (kI.Own wr C s0 (acc++i:: upto K f i j))/\Hid (iA (fun k=>v.ownBlock=some k) w wr)/\Hid (∀g,s0.ownBlock=some g->v.ownBlock=some g\/w.heap.size<=g)/\Hid (kI.Own wr w.heap.size kv kids)/\Hid (dF s0 kv)
theorem Ex{w:World}{C:Nat}{v:Value}{l:List Int}(h:kI.Own w C v l):vC w (fun k=>v.ownBlock=some k):=fun k a f b c=>by
 obtain⟨d,e⟩:=h.ty b;exact WA e c pA rfl
theorem Ds(hwf:WF x.d):∀(f:Nat) (i:Int) (acc:List Int) (A:vA) (n c:Nat) (w:World) (C:Nat) (_:Hb (xA x.l) f i) (_:nA x.l i=true) (_:acc.length+(sub (xA x.l) f i).length<=2000) (_:C<=w.heap.size) (_:Dc w B p x)
 (_:kI.Own w C (.slice A n c) acc) (_:∀g,(Value.slice A n c).ownBlock=some g->¬fC p x g),
 jA 162 #[.slice A n c,lA p,aA i] w (Zx w C (.slice A n c) (acc++sub (xA x.l) f i)):=by
 intro f
 induction f with
 |zero=>intro i acc A n c w C hb;exact hb.elim
 |succ f ih=>
  intro i acc A n c w C hb hi F hC h b U;have IH:=Zh ih;have a6:=Zh hb;have H:=Zh h;have a7:=Zh hwf;have HO:=Zh b;have HF:=Zh U;have V:=Zh F;obtain⟨k,hk,hy,_⟩:=h.place hi;obtain⟨q1,q2,q3,q4,q5⟩:=jV hwf h hk hy;obtain⟨nd,I⟩:=DA (x.rs[k].nd);rw[I] at q1 q3 q4 q5;have a8:=Zh I;have HY:=Zh hy;have J:=Zh q3;have a9:=Zh (Ex b);have W:Hid (acc.length<=2000):=Zh dA;clear ih hb h hwf b U F hy hi I q1 q2 q3;go_enter func162,ntmps162;go_wp2_with fail;refine(rU i w hk HY a8 q4 q5 H).mono ?_;rintro e K ⟨L,M,N,s,o,r,rfl,_,o1,b1⟩;have X:w.heap.size<=K.heap.size:=b1.size;have Y:Hid (lB (K.alloc (.cells (bB nd L M N s o r) 53)) K.heap.size nd L M N s o r):=Zh (lB.new _ _ _ _ _ _ _ _);have B2:Hid (fA w (K.alloc (.cells (bB nd L M N s o r) 53))):=Zh (b1.alloc X _);have T:=Zh (o1.alloc (.cells (bB nd L M N s o r) 53));have O2:=Zh (HO.below B2 Zl);clear o1 b1;go_upto_region 2 with fail;generalize K.alloc (.cells (bB nd L M N s o r) 53)=w2 at Y B2 T O2|-;generalize K.heap.size=g7 at Y X|-;have ah:=B2.size;go_upto_region 5 with(at_builtin;refine kI.QF rfl _ _ rfl (v:=.slice A n c) (l:=acc) (m:=[i]) (B:=C) rfl (O2.alloc _) rfl rfl KF (Kind.AA.lit (heap_alloc_new _ _) rfl) (by have:=W.out;simp;omega) jB ?_;intro v' w3 b t O;obtain⟨A3,n3,c3,rfl,_,_,_,_,_⟩:=b.slice);have y:iA (fun k=>(Value.slice A n c).ownBlock=some k) w2 w3:=((iA.refl _ w2).alloc _).trans (iA.WG (S:=fun k=>(Value.slice A n c).ownBlock=some k) t (fun g a _=>a)) (fun _ _ h=>h);have B3:Hid (iA (fun k=>(Value.slice A n c).ownBlock=some k) w w3):=Zh ((iA.oB B2 _).trans y (fun _ _ h=>h));have N3:Hid (lB w3 g7 nd L M N s o r):=Zh (Y.je y (fun e=>by obtain⟨d,hd⟩:=O2.ty e;exact WA hd Y pA rfl));have P:∀g,(Value.slice s o r).ownBlock=some g->(Value.slice A n c).ownBlock≠some g:=fun g a e=>by
   have:=(T.lt a).1;have:=(HO.lt e).2;omega
  have K3:Hid (kI.Own w3 w.heap.size (.slice s o r) nd.kids):=Zh (T.VB fun g a=>y.block g (T.lt a).2 (P g a));have aa:Hid (∀g,(Value.slice A3 n3 c3).ownBlock=some g->(Value.slice A n c).ownBlock=some g\/w.heap.size<=g):=Zh (fun g a=>by
   rcases O with e|e
   ·exact .inl (e▸a)
   ·rw[e] at a;injection a with a;refine .inr ?_;rw[<-a];simp;omega)
  have ab:Hid (dF (.slice A3 n3 c3) (.slice s o r)):=Zh (fun g a e=>by
   rcases O with q|q
   ·exact P g e (q▸a)
   ·rw[q] at a;injection a with a;have:=(T.lt e).2;simp at a;omega)
  have O3:Hid (kI.Own w3 C (.slice A3 n3 c3) (acc++i:: upto (xA x.l) f i 0)):=Zh (by simpa[upto] using b);obtain⟨g1,g2,g3,g4,g5⟩:=UE K3 rfl;have Z:Hid ((xA x.l i).length=o):=Zh (by rw[<-J.out];exact g1);have ai:o<=1000:=dA;clear b t O y P g1 g2 g3 g4 g5 Y T O2;have y6:=N3.c6;go_wp2_with fail;go_loopw [0,27] (fun s0 Q wr=>Dw w C (.slice A n c) (.slice s o r) acc nd.kids i (xA x.l) f o s0 Q wr) (fun _ Q _=>o-(intOf Q).toNat)
  case atStart=>exact⟨0,A3,n3,c3,rfl,by omega,rfl,O3,B3,aa,K3,ab⟩
  case round=>
   obtain⟨j,A5,n5,c5,rfl,hj,rfl,a0,z,D,E,a1⟩:=hrel;by_cases aj:j<o
   ·have u:j<(xA x.l i).length:=(IA Z.out);have ac:j<nd.kids.length:=(by rw[J.out];exact u);obtain⟨_,_,_,_,a2⟩:=UE E rfl;obtain⟨gb,go,rfl,ad,hc⟩:=yE a2 ac;have G:=a7.tr.aB i (xA x.l i)[j] (List.getElem_mem u);have e1:nd.kids[j]=(xA x.l i)[j]:=(by simp only[J.out]);rw[e1] at hc;have a3:Dc wr B p x:=H.but z (fun k hk e=>HF k e hk) a9;have ak:w.heap.size<=wr.heap.size:=z.size;have ae:Hid ((acc++i:: upto (xA x.l) f i j).length+(sub (xA x.l) f (xA x.l i)[j]).length<=2000):=Zh (by
     have q:=V.out;rw[sub] at q;have h2:(upto (xA x.l) f i (j+1)).length<=((xA x.l i).flatMap (sub (xA x.l) f)).length:=by
      unfold upto;have e:(xA x.l i).flatMap (sub (xA x.l) f)=((xA x.l i).take (j+1)).flatMap (sub (xA x.l) f)++((xA x.l i).drop (j+1)).flatMap (sub (xA x.l) f):=(by rw[<-List.flatMap_append,List.take_append_drop]);rw[e,List.length_append];omega
     rw[kU (f:=f) u,List.length_append] at h2;simp only[List.length_cons,List.length_append] at q|-;omega)
    have a4:=Zh (IH (xA x.l i)[j] (acc++i:: upto (xA x.l) f i j) A5 n5 c5 wr C (a6 _ (List.getElem_mem u)) G.2.1 ae dA a3 a0 (fun g a hf=>by
     rcases D g a with e|e
     ·exact HF g e hf
     ·have:=H.lt hf;omega))
    have a5:=Zh (kU (f:=f) u);generalize (xA x.l i)[j]=kd at hc a4 a5;clear G e1 a2 a3 ad;go_wp2_with fail;refine a4.mono ?_;rintro e w5 ⟨A6,n6,c6,rfl,o6,b6,R⟩;have O6:Hid (kI.Own w5 C (.slice A6 n6 c6) (acc++i:: upto (xA x.l) f i (j+1))):=Zh (by rw[a5.out];simpa using o6);have B6:Hid (iA (fun k=>(Value.slice A n c).ownBlock=some k) w w5):=Zh (z.trans b6 (fun g a e=>by
     rcases D g e with q|q
     ·exact q
     ·omega))
    have af:Hid (∀g,(Value.slice A6 n6 c6).ownBlock=some g->(Value.slice A n c).ownBlock=some g\/w.heap.size<=g):=Zh (fun g a=>by
     rcases R g a with q|q
     ·exact D g q
     ·exact .inr dA)
    have K6:Hid (kI.Own w5 w.heap.size (.slice (some (cA gb go)) o r) nd.kids):=Zh (E.VB fun g a=>b6.block g (E.lt a).2 (fun e=>a1 g e a));have ag:Hid (dF (.slice A6 n6 c6) (.slice (some (cA gb go)) o r)):=Zh (fun g a e=>by
     rcases R g a with q|q
     ·exact a1 g q e
     ·have:=(E.lt e).2;omega)
    clear o6 b6 R;go_wp2_with fail;go_roundw
    case rel=>exact⟨j+1,A6,n6,c6,by go_num,by omega,rfl,O6,B6,af,K6,ag⟩
    case measure=>simp[intOf];omega
   ·have HE:Hid (acc++i:: upto (xA x.l) f i j=acc++sub (xA x.l) (f+1) i):=Zh (by rw[sub,<-Y5,show j=(xA x.l i).length by have:=Z.out;omega]);go_wp2_with fail;go_ret;exact⟨_,_,_,rfl,by rw[<-HE.out];exact a0,z,D⟩
def rO(l:List Nd)(i:Int):List Int:=if nA l i=true then below l i else[]
theorem yo(i:Int)(w:World)(hwf:WF x.d)(h:Dc w B p x):jA 124 #[lA p,aA i] w (Ua w (rO x.l i)):=by
 cases hi:nA x.l i with
 |true=>
  have f:Hid (rO x.l i=below x.l i):=Zh (by unfold rO;rw[if_pos hi]);have o:Hb (xA x.l) (x.l.length+1) i:=by
   have j:Hb (xA x.l) ((MA x.l).length+1) i:=hwf.tr.JK (L:=MA x.l) (fun y r=>zE.1 r) (y:=i) hi;simpa[MA] using j
  have a:(sub (xA x.l) (x.l.length+1) i).length<=2000:=by
   have j:=eI (sub (xA x.l) (x.l.length+1) i) (MA x.l) (hwf.tr.vL _ i hi) (fun z s=>zE.1 (hwf.tr.ZJ _ i z hi s));have t:=hwf.VJ;rw[show x.d.l=x.l from rfl] at t;simp only[MA,List.length_map] at j;omega
  have l:=Zh (Ds hwf (x.l.length+1) i [] none 0 0 w w.heap.size o hi (by simpa using a) Zl h (Kind.Own.nil _ _ _) (fun g u=>by cases u));clear o a hwf h hi;go_enter func124,ntmps124;go_wp2_with fail;refine l.mono ?_;rintro e m ⟨A,n,c,rfl,q,b,_⟩;have v:=Zh q;have d:Hid (fA w m):=Zh (b.eD (fun k _ e=>by cases e) Zl);clear q b;go_wp2_with fail;go_ret;rw[f.out];exact⟨A,n,c,rfl,by have:=v.out;rw[List.nil_append] at this;exact this,d⟩
 |false=>
  have f:Hid (rO x.l i=[]):=Zh (by unfold rO;rw[if_neg (by rw[hi];simp)]);have C:=Zh hi;have H:=Zh h;have l:Hid (jA 162 #[tA,lA p,aA i] w fun e w'=>e= .returned (tA)/\fA w w'):=Zh (by
   clear hi h hwf;go_enter func162,ntmps162;go_wp2_with fail;refine(m8 i w C H).mono ?_;rintro e m ⟨rfl,b⟩;have d:=Zh b;clear b;go_wp2_with fail;go_ret;exact⟨rfl,d.alloc d.size _⟩)
  clear hi h hwf;go_enter func124,ntmps124;go_wp2_with fail;refine l.mono ?_;rintro e m ⟨rfl,b⟩;have d:=Zh b;clear b;go_wp2_with fail;go_ret;rw[f.out];exact⟨none,0,0,rfl,Kind.Own.nil _ _ _,d⟩
def Ew(w:World)(x:Dx)(ps:List Int)(g:Nat)(s7 s17:Value)(wr:World):Prop:=
 ∃(j:Nat) (cur:Int),s17 = aA j/\s7= .bool true/\j<=ps.length/\Hid (nA x.l cur=true)/\Hid (VS wr w.heap.size g x.l cur)/\Hid (ME x.l 1 ps=ME x.l cur (ps.drop j))/\Hid (fA w wr)
def LV(w:World)(r:Int×Bool)(e:Ending)(w':World):Prop:=e= .returned (.tuple #[aA r.1,.bool r.2])/\fA w w'
theorem FX{w w':World}{o:Option Int}(h:o=none)(hb:fA w w'):LV w (vH o) (.returned (.tuple #[aA 0,.bool false])) w':=by subst h;exact⟨rfl,hb⟩
theorem Rf{w w':World}{o:Option Int}{i:Int}(h:o=some i)(hb:fA w w'):LV w (vH o) (.returned (.tuple #[aA i,.bool true])) w':=by subst h;exact⟨rfl,hb⟩
theorem Es(ps:List Int)(A:vA)(n c:Nat)(w:World)(hn:ps.length=n)(hn2:n<=1000000)(HP:kI.AA w w.heap.size A ps)(hwf:WF x.d)(h:Dc w B p x):jA 90 #[lA p,.slice A n c] w (LV w (vH (ME x.l 1 ps))):=by
 have H:=Zh h;have s:=Zh hwf;have HH:=Zh HP;have HN:=Zh hn;have D:Hid (∀(W:World) (y:Int),fA w W->nA x.l y=true->jA 136 #[lA p,aA y] W fun e w'=>∃(a:Nd) (A:vA) (n c:Nat) (v:vA) (n2 z:Nat),e= .returned (.tuple #[.agg (bB a A n c v n2 z),.bool true])/\kI.Own w' W.heap.size (.slice v n2 z) a.kids/\(a.id=y/\a.par=EA x.l y/\a.kids=xA x.l y)/\fA W w'):=Zh (fun W y hb hy=>by
  have HX:=H.below hb;obtain⟨k,hk,e,_⟩:=HX.place hy;obtain⟨M,q2,N,q4,q5⟩:=jV s HX hk e;refine(rU y W hk e rfl q4 q5 HX).mono ?_;rintro e w' ⟨A,n,c,v,n2,z,rfl,_,o,b⟩;exact⟨_,A,n,c,v,n2,z,rfl,o,⟨M,q2,N⟩,b⟩)
 have HR:=Zh hwf.root;clear h hwf HP hn;go_enter func90,ntmps90;go_wp2_with fail;refine(D w 1 Ze HR).mono ?_;rintro e O ⟨a,P,Q,R,v,n2,z,rfl,o1,u,b1⟩;have BX:Hid (VS (O.alloc (.cells (bB a P Q R v n2 z) 53)) w.heap.size O.heap.size x.l 1):=Zh ⟨b1.size,a,P,Q,R,v,n2,z,lB.new _ _ _ _ _ _ _ _,o1.alloc _,fun _=>u⟩;have B1:Hid (fA w (O.alloc (.cells (bB a P Q R v n2 z) 53))):=Zh (b1.alloc b1.size _);clear o1 u b1;go_upto_region 2 with fail;generalize O.alloc (.cells (bB a P Q R v n2 z) 53)=W1 at BX B1|-;generalize O.heap.size=g at BX|-;go_wp2_with fail;go_loopw [7,17] (fun s7 G wr=>Ew w x ps g s7 G wr) (fun _ G _=>n-(intOf G).toNat)
 case atStart=>exact⟨0,1,rfl,rfl,by omega,HR,BX,Zh rfl,B1⟩
 case round=>
  obtain⟨j,f,rfl,rfl,hj,HC,S,HD,E⟩:=hrel;have a4:j<=n:=(IA HN.out);obtain⟨a,P,Q,R,v,n2,z,nb,o2,u⟩:=S.at_;obtain⟨M,q2,N⟩:=u HC;obtain⟨g1,_,_,_,g5⟩:=UE o2 rfl;have T:=Zh S.ge;have NB:=Zh nb;have K2:=Zh g5;have I:Hid ((xA x.l f).length=n2):=Zh (by rw[<-N];exact g1);have Q1:=Zh M;have Q3:=Zh N;have z0:=nb.c0;have z6:=nb.c6;rw[M] at z0;have a3:n2<=1000000:=by
   have h1:=eI (xA x.l f) (MA x.l) (s.tr.AD f) (fun c hc=>zE.1 (s.tr.aB f c hc).2.1);have h2:=s.VJ;rw[show x.d.l=x.l from rfl] at h2;simp only[MA,List.length_map] at h1;have:=I.out;omega
  clear nb o2 u M q2 N g1 g5;by_cases a5:j<n
  ·have U:j<ps.length:=(IA HN.out);obtain⟨pb,po,rfl,a6,a0⟩:=yE (HH.on E) U;have C:=Zh (List.drop_eq_getElem_cons U);generalize ps[j]=t at a0 C;by_cases ht:t<0
   ·have V:Hid (ME x.l 1 ps=none):=Zh (by rw[HD.out,C.out];exact Ha (.inl ht));go_wp2_with fail;go_ret2;exact FX V E
   obtain⟨m,rfl⟩:=Int.eq_ofNat_of_zero_le (show 0<=t by omega);by_cases hm:n2<=m
   ·have V:Hid (ME x.l 1 ps=none):=Zh (by rw[HD.out,C.out];exact Ha (.inr (by have:=I.out;simp;omega)));clear ht;go_wp2_with fail;go_ret2;exact FX V E
   have J:m<(xA x.l f).length:=(IA I.out);have a1:m<a.kids.length:=(by rw[Q3.out];exact J);obtain⟨kb,ko,rfl,a7,X⟩:=yE K2 a1;have e1:a.kids[m]=(xA x.l f)[m]:=(by simp only[Q3.out]);rw[e1] at X;have Y:Hid (ME x.l 1 ps=ME x.l (xA x.l f)[m] (ps.drop (j+1))):=Zh (by rw[HD.out,C.out];exact fm J);have K:Hid (nA x.l (xA x.l f)[m]=true):=Zh (s.tr.aB f _ (List.getElem_mem J)).2.1;generalize (xA x.l f)[m]=kd at X Y K;have a8:m<n2:=dA;clear ht hm e1;go_wp2_with fail;refine(D wr kd E K).mono ?_;rintro e w5 ⟨nd',Z,n',c',l,q,r,rfl,o5,F,b5⟩;have i:=Zh (NB.below b5 NB.lt);have B5:=Zh (E.trans (b5.mono E.size));have a2:=Zh F;have K5:=Zh o5;clear F o5 b5 z0 z6;have u0:=i.c0;have f0:=i.frozen 0;have u1:=i.c1;have f1:=i.frozen 1;have u2:=i.c2;have f2:=i.frozen 2;have u3:=i.c3;have f3:=i.frozen 3;have u4:=i.c4;have f4:=i.frozen 4;have u5:=i.c5;have f5:=i.frozen 5;have u6:=i.c6;have f6:=i.frozen 6;have u7:=i.c7;have f7:=i.frozen 7;have N6:Hid (lB ((((((((w5.setCell (cA g 0) (aA nd'.id)).setCell (cA g 1) (aA nd'.par)).setCell (cA g 2) (bA nd'.tag)).setCell (cA g 3) (bA nd'.txt)).setCell (cA g 4) (bA nd'.key)).setCell (cA g 5) (.slice Z n' c')).setCell (cA g 6) (.slice l q r)).setCell (cA g 7) (aA nd'.note)) g nd' Z n' c' l q r):=Zh (i.Rd (nd':=nd'));have L:Hid (iA (fun k=>k=g) w5 ((((((((w5.setCell (cA g 0) (aA nd'.id)).setCell (cA g 1) (aA nd'.par)).setCell (cA g 2) (bA nd'.tag)).setCell (cA g 3) (bA nd'.txt)).setCell (cA g 4) (bA nd'.key)).setCell (cA g 5) (.slice Z n' c')).setCell (cA g 6) (.slice l q r)).setCell (cA g 7) (aA nd'.note))):=Zh (mA (mA (mA (mA (mA (mA (mA (mA (iA.refl _ _)))))))));go_upto_region 8 with fail;generalize ((((((((w5.setCell (cA g 0) (aA nd'.id)).setCell (cA g 1) (aA nd'.par)).setCell (cA g 2) (bA nd'.tag)).setCell (cA g 3) (bA nd'.txt)).setCell (cA g 4) (bA nd'.key)).setCell (cA g 5) (.slice Z n' c')).setCell (cA g 6) (.slice l q r)).setCell (cA g 7) (aA nd'.note))=w6 at N6 L|-;have B6:Hid (fA w w6):=Zh (B5.trans (L.eD (fun k _ e=>by have:=T.out;omega) B5.size));have K6:Hid (kI.Own w6 w.heap.size (.slice l q r) nd'.kids):=Zh ((K5.but L (fun k hk e=>by obtain⟨d,hd⟩:=K5.ty hk;exact WA hd (e▸i.out) pA rfl)).dE E.size);clear u0 u1 u2 u3 u4 u5 u6 u7 f0 f1 f2 f3 f4 f5 f6 f7;go_wp2_with fail;go_roundw
   case rel=>exact⟨j+1,kd,by go_num,rfl,by omega,K,Zh ⟨T,nd',Z,n',c',l,q,r,N6,K6,fun _=>a2⟩,Y,B6⟩
   case measure=>simp[intOf];omega
  ·have V:Hid (ME x.l 1 ps=some f):=Zh (by rw[HD.out,List.drop_of_length_le (IA HN.out)];rfl);go_wp2_with fail;go_ret2;exact Rf V E
variable{B q:Nat}
end P6
namespace P21
open Go.RowKit Kd P4 P5 P8
theorem eo:∀(t:TV) (w:World),EC w w.heap.size t->countP (er t)<=100000->jA 123 #[.agg #[bA t.tag,bA t.txt,bA t.key,.slice t.sa.A t.sa.n t.sa.c,.slice t.sk.A t.sk.n t.sk.c]] w fun e w'=>e= .returned (aA (countP (er t):Nat))/\fA w w':=by
 intro t
 induction t using TV.ind with
 |h tag txt key sa attrs sk kids ih=>
  obtain⟨A,n,c⟩:=sa;obtain⟨i,n2,j⟩:=sk;intro w h a;have M:attrs.length=n:=h.al;have AH:Hid (kA.AA w w.heap.size A attrs):=Zh h.ah;have x:Hid (kids.length=n2):=Zh h.kl;have N:Hid (kT.AA w w.heap.size i kids):=Zh h.kh;have O:Hid (∀k∈kids,EC w w.heap.size k):=Zh h.ks;have E:Hid (fA w (w.alloc (.cells #[bA tag,bA txt,bA key,.slice A n c,.slice i n2 j] 81))):=Zh (Zb _ _);have F:Hid (TB (w.alloc (.cells #[bA tag,bA txt,bA key,.slice A n c,.slice i n2 j] 81)) w.heap.size (.mk tag txt key ⟨A,n,c⟩ attrs ⟨i,n2,j⟩ kids)):=Zh (TB.new w (.mk tag txt key ⟨A,n,c⟩ attrs ⟨i,n2,j⟩ kids));have s:=Zh a;rw[er,countP] at a;have y:cB (yA kids)<=100000:=dA;have P:n2<=100000:=(by have Q:=mQ (yA kids);rw[nC,List.length_map] at Q;have:=x.out;rw[nC] at y;omega);have R:=Zh ih;clear h a M ih;show jA 123 #[.agg #[bA tag,bA txt,bA key,.slice A n c,.slice i n2 j]] w _;go_enter func123,ntmps123;go_upto_region 1 with fail;generalize w.alloc (.cells #[bA tag,bA txt,bA key,.slice A n c,.slice i n2 j] 81)=W at E F|-;have S:W.cell? ⟨w.heap.size,4,none⟩=some (.slice i n2 j):=F.c4;go_wp2_with fail;go_loopw [3,9] (fun T z wr=>∃(k:Nat),k<=n2/\z = aA k/\T = aA (cB ((yA kids).take k)+1:Nat)/\Hid (fA w wr)) (fun _ z _=>n2-(intOf z).toNat)
  case atStart=>exact⟨0,by omega,rfl,by simp[cB],E⟩
  case round=>
   obtain⟨k,hk,rfl,rfl,p⟩:=hrel;by_cases U:k<n2
   ·have f:k<kids.length:=(IA x.out);have B:k<(yA kids).length:=(by rw[nC];simpa using f);have g:=PM B;have C:=VM (yA kids) (k+1);have u:(yA kids)[k]=er kids[k]:=(by simp[nC]);rw[u] at g;obtain⟨b,o,rfl,hb,G,H,I,J,K⟩:=qK (N.on p) f;have D:Hid (∀q,fA wr q->jA 123 #[.agg #[bA kids[k].tag,bA kids[k].txt,bA kids[k].key,.slice kids[k].sa.A kids[k].sa.n kids[k].sa.c,.slice kids[k].sk.A kids[k].sk.n kids[k].sk.c]] q fun e w'=>e= .returned (aA (countP (er kids[k]):Nat))/\fA q w'):=Zh (fun q V=>R kids[k] (List.getElem_mem f) q ((O _ (List.getElem_mem f)).on (p.trans (V.mono p.size))) dA);obtain⟨cn,l⟩:=DA (cB ((yA kids).take k));obtain⟨ck,m⟩:=DA (countP (er kids[k]));rw[m] at D;rw[l];rw[l,m] at g;have s:=Zh g;have X:cn+ck<=100000:=dA;clear l m g u C;generalize kids[k]=d at G H I J K D;go_upto_region 5 with fail;have r:Hid (TB (wr.alloc (.cells #[bA d.tag,bA d.txt,bA d.key,.slice d.sa.A d.sa.n d.sa.c,.slice d.sk.A d.sk.n d.sk.c] 81)) wr.heap.size d):=Zh (TB.new wr d);have v:Hid (fA wr (wr.alloc (.cells #[bA d.tag,bA d.txt,bA d.key,.slice d.sa.A d.sa.n d.sa.c,.slice d.sk.A d.sk.n d.sk.c] 81))):=Zh (Zb _ _);generalize wr.alloc (.cells #[bA d.tag,bA d.txt,bA d.key,.slice d.sa.A d.sa.n d.sa.c,.slice d.sk.A d.sk.n d.sk.c] 81)=Y at r v|-;clear G H I J K;have a0:=r.c0;have a1:=r.c1;have a2:=r.c2;have a3:=r.c3;have S:=r.c4;go_wp2_with fail;refine(D Y v).mono ?_;rintro e w2 ⟨rfl,L⟩;have Z:=Zh (p.trans ((v.trans (L.mono v.size)).mono p.size));clear L;go_wp2_with fail;go_roundw
    case rel=>exact⟨k+1,by omega,by go_num,by rw[s.out];go_num,Z⟩
    case measure=>simp[intOf];omega
   ·obtain rfl:k=n2:=dA
    go_wp2_with fail;go_ret;refine⟨?_,p⟩;rw[er,countP,List.take_of_length_le (by have:=x.out;rw[nC];simp;omega)];rfl
end P21
end Go.Proofs.YtimfajmknmlajaaGreatDoor
