/- A part of the proof. No condition. -/
import Derived.Deep.DrawnRows
import Derived.Deep.RegionHeld3
import Derived.Deep.DeepCutAuto
import Derived.Test.YtngnkmeaaneklaaGreatM1
import Derived.Test.YtngnkmeaaneklaaGreatM4
import Derived.Test.YtngnkmeaaneklaaGreatM5
import Derived.Test.YtngnkmeaaneklaaGreatM6
set_option linter.unusedVariables false
set_option linter.unusedSimpArgs false
set_option maxRecDepth 100000
set_option maxHeartbeats 40000000
namespace Go.Proofs.YtngnkmeaaneklaaGreat
open Tryz
namespace P5
open Go.RowKit Kd P4
variable{B q:Nat}{y:Rx}
attribute [local go_sem ↓] Go.wp_at_zero Go.wp_at_succ
theorem rh{w:World}{B' g:Nat}(hg:w.heap[g]? = some (.cells #[] 53 (0,0)))(hB:B'<=g):kN.Own w B' (.slice (some (dA g 0)) 0 0) []:=
 Kind.wG (K:=kN) (cur:=#[]) rfl hB hg Zl (by simp[maxLen]) DA (by simp[Kind.cells])
theorem sh{w w5:World}(h:Rf w B q y)(hb:eA w w5){v:Value}{r:Rn}(hr:r.vk=⟨none,0,0⟩)(hv:r.va=⟨none,0,0⟩)(hk:r.nd.kids=[])(ha:r.nd.attrs=[])(ho:kN.Own w5 w.heap.size v ((y.rs++[r]).map Rn.rn)):
 LB w B q y {y with v:=v,rs:=y.rs++[r]} (w5.setCell (dA q 0) v):=by
 have j:=FA h.mA;have b:gA (fun k=>k=q) w (w5.setCell (dA q 0) v):=gA.setCell (S:=fun k=>k=q) (p:=(dA q 0)) (gA.tB hb _) (fun _=>rfl) _;refine⟨⟨heap_set ((hb.block q j).trans h.mA) 0 _,h.base,(ho.sB fun g f=>Below.heap_setCell _ _ _ _ ?_).dE (uA h.base),fun s a=>?_⟩,b,fun i l=>?_⟩
 ·rintro rfl;have:=(ho.lt f).1;omega
 ·rcases List.mem_append.1 a with a|a
  ·have c:=h.nodes s a;refine⟨c.mB.but b (oK h),c.kids.sB fun g f=>b.block g (c.kids.lt f).2 ?_⟩;rintro rfl;obtain⟨d,m⟩:=c.kids.ty f;exact RA m h.mA nA rfl
  ·rw[List.mem_singleton] at a;subst a;exact⟨by rw[hv,ha];exact nB.yI _,by rw[hr,hk];exact Kind.Own.nil _ _ _⟩
 ·rcases l with e|e|⟨s,a,e⟩
  ·exact .inl (.inl e)
  ·exact .inr (ho.lt e).1
  ·rcases List.mem_append.1 a with a|a
   ·exact .inl (.inr (.inr ⟨s,a,e⟩))
   ·rw[List.mem_singleton] at a;subst a;rw[hr] at e;cases e
theorem mf(tag txt key:wA):wC tag txt key=if tag.toList.isEmpty then P1.YB txt.data.toList&&key.toList.isEmpty else P1.NC tag.data.toList&&P1.YB key.data.toList&&txt.toList.isEmpty:=by
 have d:∀l:KA,decide (l=[])=l.isEmpty:=fun l=>by cases l<;>simp
 unfold wC;rw[d,d];cases h:tag.toList<;>simp
theorem th(r:Rc)(A:jA)(n c:Nat)(w:World)(hwf:WF y.d)(hn:y.n<=100000)(h1:r.tag.size<=maxLen)(h2:r.txt.size<=maxLen)(h3:r.key.size<=maxLen)(h:Rf w B q y):
 fA 89 #[iA q,.agg #[aA r.op,aA r.id,aA r.par,aA r.rA,bA r.tag,bA r.txt,bA r.key,.slice A n c]] w (gC w B q y (jD y.d r).1 (jD y.d r).2):=by
 have H:=Zh h;have hl:y.rs.length<=1000:=(by have:=hwf.xG;rw[show y.d.l=y.l from rfl,MD] at this;omega);have af:y.R<=1000:=(by have:=hwf.room;rw[show y.d.R=y.R from rfl] at this;omega);have ag:1<=y.n:=hwf.n0;have L:Hid (eA w (w.alloc (.cells #[aA r.op,aA r.id,aA r.par,aA r.rA,bA r.tag,bA r.txt,bA r.key,.slice A n c] 87))):=Zh (Zb _ _);have z:Hid (bB (w.alloc (.cells #[aA r.op,aA r.id,aA r.par,aA r.rA,bA r.tag,bA r.txt,bA r.key,.slice A n c] 87)) w.heap.size r A n c):=Zh (bB.new w r A n c);clear h hwf;go_enter func89,ntmps89;go_upto_region 1 with fail;generalize w.alloc (.cells #[aA r.op,aA r.id,aA r.par,aA r.rA,bA r.tag,bA r.txt,bA r.key,.slice A n c] 87)=W at L z|-;have H1:=Zh (H.below L);have I:=H1.c1;have b1:=z.c1;have b4:=z.c4;have b5:=z.c5;have b6:=z.c6;by_cases M:r.id=y.n+1
 ·have aa:(r.id != y.n+1)=false:=(by simpa using M);obtain⟨mm,i⟩:=qA (wC r.tag r.txt r.key);have N:=Zh i;rw[mf] at i;obtain⟨ba,ha⟩:=qA (P1.NC r.tag.data.toList);obtain⟨bb,hb⟩:=qA (P1.YB r.key.data.toList);obtain⟨bc,hc⟩:=qA (P1.YB r.txt.data.toList);rw[ha,hb,hc] at i;have HA:=Zh ha;have HB:=Zh hb;have HC:=Zh hc;have O:=Zh i;have ab:=Zh M;clear i ha hb hc M;go_quiet (fail);go_wp2_with fail;refine zA (P3.uM r.tag _ HA h1) ?_;go_wp2_with fail;refine zA (P3.pJ r.key _ HB h3) ?_;go_wp2_with fail;refine(P3.pJ r.txt _ HC h2).mono ?_;rintro e w' ⟨rfl,rfl⟩;go_upto_region 6 with fail;go_cut [53] (fun s wx=>s= .bool (!mm)/\Hid (eA w wx)/\Hid (bB wx w.heap.size r A n c))
  case first=>
   have P:=Zh (PA L nq);have Q:Hid (bB (W.drewN nq) w.heap.size r A n c):=Zh z.out;cases tE:r.tag.toList.isEmpty with
   |true=>
    cases bc with
    |false=>
     go_wp2_with fail;go_meet;exact⟨by rw[<-O.out,tE];rfl,P,Q⟩
    |true=>
     cases kE:r.key.toList.isEmpty
     all_goals
      go_wp2_with fail;go_meet;exact⟨by rw[<-O.out,tE,kE];rfl,P,Q⟩
   |false=>
    cases ba with
    |false=>
     go_wp2_with fail;go_meet;exact⟨by rw[<-O.out,tE];rfl,P,Q⟩
    |true=>
     cases bb with
     |false=>
      go_wp2_with fail;go_meet;exact⟨by rw[<-O.out,tE];rfl,P,Q⟩
     |true=>
      cases xE:r.txt.toList.isEmpty
      all_goals
       go_wp2_with fail;go_meet;exact⟨by rw[<-O.out,tE,xE];rfl,P,Q⟩
  case rest=>
   obtain⟨rfl,R,N2⟩:=hcut;obtain⟨C,rfl⟩:∃C,C=wc:=⟨_,rfl⟩;cases mm with
   |false=>
    have E:Hid (jD y.d r=(1,y.d)):=Zh (by unfold jD;rw[if_pos (.inr N.out)]);go_wp2_with fail;go_ret;rw[E.out];exact gC.same H R rfl
   |true=>
    have T:=Zh (H.below R);obtain⟨U,cL,hv,ac,ad,hz,hh⟩:=T.slice;have d0:=T.c0;rw[hv] at d0;have d2:=T.c2;have HV:=Zh hv;have HZ:=Zh hz;have HH:=Zh hh;obtain⟨nl,F⟩:=qA y.rs.length;have p:=Zh F;rw[F] at d0 hl ac;have I:¬(r.id≠y.d.n+1\/wC r.tag r.txt r.key=false):=by
     rintro(e|e)
     ·exact e ab
     ·rw[N.out] at e;cases e
    have V:=Zh I;clear hv hz hh F I ad;by_cases hg:y.R<=nl
    ·have E:Hid (jD y.d r=(6,y.d)):=Zh (by unfold jD;rw[if_neg V.out,if_pos];show y.R<=y.l.length;rw[MD,p.out];exact hg);have q1:decide ((y.R:Int)<=(nl:Int))=true:=AA;have q2:decide ((nl:Int)<(y.R:Int))=false:=AA;have q3:decide (y.R<=nl)=true:=AA;go_wp2_with fail;go_quiet (fail);go_wp2_with fail;go_ret;rw[E.out];exact gC.same H (by exact PA R _) rfl
    ·have E:Hid (jD y.d r=(0,{y.d with l:=y.d.l++[GC r.id r.tag r.txt r.key],n:=y.d.n+1})):=Zh (by unfold jD;rw[if_neg V.out,if_neg];show¬y.R<=y.l.length;rw[MD,p.out];exact hg);have q1:decide ((y.R:Int)<=(nl:Int))=false:=AA;have q2:decide ((nl:Int)<(y.R:Int))=true:=AA;have q3:decide (y.R<=nl)=false:=AA;have q4:nl<y.R:=cA;clear hg;go_wp2_with fail;go_quiet (fail);go_upto_region 10 with fail;have B3:=Zh (PA R nq);have b:Hid (bB (C.drewN nq) w.heap.size r A n c):=Zh N2.out;have X:Hid (kN.pA (C.drewN nq) (C.drewN nq).heap.size U (y.rs.map Rn.rn)):=Zh (HH.drewN nq);have Y:=Zh (T.drewN nq);have d3:(C.drewN nq).cell? (dA q 0)=some (.slice U nl cL):=d0;clear d0 d2 q1 q2 q3 q4 R N2 HH T H1 L z I b1 b4 b5 b6;generalize C.drewN nq=W3 at B3 b X Y d3|-;have f3:=Y.frozen 0;have b1:=b.c1;have b4:=b.c4;have b5:=b.c5;have b6:=b.c6;have Z:q<W3.heap.size:=FA Y.mA;have ae:¬q=w.heap.size:=(uA (FA H.mA));have ah:∀(W:World) (j:Nat) (v:Value),(W.setCell (dA q 0) v).cell? ⟨w.heap.size,j,none⟩=W.cell? ⟨w.heap.size,j,none⟩:=fun W j v=>World.cell?_setCell_far _ _ _ _ ae
     refine Tl.GH (S:=(fun w'=>w'.cell? (dA q 0)=some (.slice U nl cL)/\w'.cell? ⟨w.heap.size,1,none⟩=some (aA r.id)/\w'.cell? ⟨w.heap.size,4,none⟩=some (bA r.tag)/\w'.cell? ⟨w.heap.size,5,none⟩=some (bA r.txt)/\w'.cell? ⟨w.heap.size,6,none⟩=some (bA r.key))) (by kernel_rfl) 20 _ rfl rfl rfl (by kernel_rfl) (by go_keep) (fun hHeld=>?_);simp only[List.setIfInBounds_toArray,List.set_cons_zero,List.set_cons_succ,Tl.idle]
     repeat' (first
      |refine Zu 0 64 ?_
      |refine Zu 2 66 ?_
      |refine Zu 3 67 ?_
      |refine Zu 4 68 ?_
      |refine Zu 5 69 ?_
      |refine Zu 7 71 ?_
      |refine Zu 8 72 ?_
      |refine Zu 9 73 ?_
      |refine Zu 10 74 ?_
      |refine Zu 11 75 ?_
      |refine Zu 12 76 ?_
      |refine Zu 13 77 ?_
      |refine Zu 14 78 ?_
      |refine Zu 15 79 ?_
      |refine Zu 18 82 ?_
      |refine Zu 19 83 ?_
      |refine Zv 20 ?_
      |refine Zq [1] ?_
      |refine Zq [6] ?_
      |refine Zq [17] ?_
      |refine Zq [16] ?_
      |refine Zq [1,16] ?_
      |refine Zq [6,16] ?_
      |refine AllReadyH.cons rfl (fun K hK=>?_) ?_
      |exact AllReadyH.nil
      |(refine kN.tG rfl (.tmp 65) (.tmp 69) rfl (v:=.slice (some ⟨_,0,Option.none⟩) 0 0) (l:=[]) (m:=y.rs.map Rn.rn) (B:=W3.heap.size) rfl (rh (by first|exact heap_drew (lD DA)|exact heap_drew (oB (lD DA))) (by first|exact Zl|(simp;done)|(simp;omega))) rfl (by rw[List.length_map];exact p) HZ (X.on (by repeat (first|exact Ze|refine Below.drew ?_|refine Below.alloc ?_ (by first|exact Zl|(simp;done)|(simp;omega)) _))) AA (by first|exact Zl|(simp;done)|(simp;omega)) ?_;intro v4 w4 o d a0;have O4:=Zh o;have t:Hid (eA W3 w4):=Zh (Below.grown (a:=W3) (by repeat (first|exact Ze|refine Below.drew ?_|refine Below.alloc ?_ (by first|exact Zl|(simp;done)|(simp;omega)) _)) d (by first|exact Zl|(simp;done)|(simp;omega)) (fun k hk=>by simp[Value.ownBlock] at hk;omega));have d4:w4.cell? ⟨q,0,Option.none⟩=some (.slice U nl cL):=(t.cell (by exact Z)).trans d3;have a1:=(b.below t b.lt).c1;have a2:=(b.below t b.lt).c4;have a3:=(b.below t b.lt).c5;have a4:=(b.below t b.lt).c6;have u:=t.size;have G:=Zh d;clear o d a0
        refine hK _ _ ?_ (fun hHeld=>?_)
        ·exact⟨d4,a1,a2,a3,a4⟩
        clear hK K;(try simp only[Zs]))
      |(refine kN.tG rfl (.tmp 70) (.tmp 80) rfl (v:=v4) (l:=[]++y.rs.map Rn.rn) (m:=[⟨r.id,0,r.tag,r.txt,r.key,⟨none,0,0⟩,⟨none,0,0⟩,0⟩]) (B:=W3.heap.size) rfl (by first|exact O4|exact O4.alloc _) rfl rfl RB (by first|exact Kind.pA.lit (heap_alloc_new _ _) rfl|exact Kind.pA.lit ((G.block _ (by first|(simp;done)|(simp;omega)) (by simp[Value.ownBlock])).trans (heap_drew (lD DA))) rfl|exact Kind.pA.lit ((G.block _ (by first|(simp;done)|(simp;omega)) (by simp[Value.ownBlock])).trans (heap_drew (oB (lD DA)))) rfl) (by have:=p.out;simp;omega) (by first|exact u|(simp;omega)) ?_;intro v5 w5 f g a5;obtain⟨A7,n7,c7,rfl,_,_,_,_,_⟩:=f.slice;have O5:=Zh f;have x:Hid (eA W3 w5):=Zh (Below.grown (a:=W3) (by first|exact t|exact t.alloc u _) g (by first|exact u|(simp;omega)) (fun k hk=>(O4.lt hk).1));have d5:w5.cell? ⟨q,0,Option.none⟩=some (.slice U nl cL):=(x.cell (by exact Z)).trans d3;have f5:w5.frozen? ⟨q,0,Option.none⟩=false:=(Y.below x).frozen 0;have a6:=(b.below x b.lt).c1;have a7:=(b.below x b.lt).c4;have a8:=(b.below x b.lt).c5;have a9:=(b.below x b.lt).c6;clear f g a5
        refine hK _ _ ?_ (fun hHeld=>?_)
        ·exact⟨d5,a6,a7,a8,a9⟩
        clear hK K;(try simp only[Zs]))
      |(go_simp
        refine hK _ _ ?_ (fun hHeld=>?_)
        ·go_keep
        clear hK K;(try simp only[Zs]))
      |(refine wpAnyH_done (by decide +kernel) ?_ _
        intro K hK;go_simp;refine hK _ _ ?_;clear hK K;have J:=Zh (sh (r:=⟨⟨none,0,0⟩,⟨none,0,0⟩,GC r.id r.tag r.txt r.key⟩) Y x rfl rfl rfl rfl (by rw[List.map_append];exact O5));generalize w5.setCell (dA q 0) (.slice A7 n7 c7)=W7 at J|-;clear d5 f5 a6 a7 a8 a9 d4 a1 a2 a3 a4 O4 t u G O5 x;have e1:=J.rf.c1;have f1:=J.rf.frozen 1;have RD:=Zh (((LB.sC H B3).trans J).trans (J.rf.next (y.n+1)));clear J;simp only at e1;go_wp2_with fail;go_ret;rw[E.out];refine⟨rfl,_,RD,?_⟩;show D.mk ((y.rs++[(⟨⟨none,0,0⟩,⟨none,0,0⟩,GC r.id r.tag r.txt r.key⟩:Rn)]).map (·.nd)) _ _ _=D.mk _ _ _ _;rw[List.map_append];rfl))
 ·have aa:(r.id != y.n+1)=true:=(by simpa using M);have E:Hid (jD y.d r=(1,y.d)):=Zh (by unfold jD;rw[if_pos (.inl M)]);go_quiet (fail);go_wp2_with fail;go_ret;rw[E.out];exact gC.same H (by exact PA L _) rfl
end P5
namespace P14
open Go.RowKit Kd P4 P5 P11 P12 P13
attribute [local go_sem ↓] Go.wp_at_zero Go.wp_at_succ
def zB:wA:=⟨#[]⟩
def uR(k:Int)(t:wA):WV:=.mk k zB zB t ⟨none,0,0⟩ [] ⟨none,0,0⟩ []
theorem cU(w:World)(k:Int)(t:wA)(Q:Nat->Prop):qB kQ w Q (uR k t):=qB.mk (sk:=⟨none,0,0⟩) (nB.yI w) (Kind.Own.nil kQ w 0) (fun b a=>by cases a) (fun k c=>by cases c)
theorem Dh{l pre post:List In}{e:PW}{x:In}{r:List In}(he:l=pre++(pB e++post))(hx:pB e=x:: r)(h:pre.length<l.length):l[pre.length]=x:=by
 have:=ZM he (i:=0) (by simpa using h) (by rw[hx];simp);simp only[Nat.add_zero] at this;rw[this];simp[hx]
theorem Uk{l:List PW}(h:∀t∈l,VB t):l.length<=(cB l).length:=by
 have:=Q8 h;have:=aL l;omega
theorem LY{ws:List PW}{j:Nat}(h:j<ws.length):cB (ws.take (j+1))=cB (ws.take j)++pB ws[j]:=by
 rw[List.take_add_one,List.getElem?_eq_getElem h,bM,Option.toList_some,DP]
theorem Df{ws:List PW}{j:Nat}(h:j<ws.length):cB ws=cB (ws.take j)++(pB ws[j]++cB (ws.drop (j+1))):=by
 conv=>lhs;rw[<-List.take_append_drop (j+1) ws,bM,LY h]
 rw[List.append_assoc]
def zH(w:World)(ws:List PW)(s3 s4:Value)(wr:World):Prop:=∃(j:Nat) (A':jA) (n' c':Nat) (us:List WV),j<=ws.length/\s4 = aA ((cB (ws.take j)).length:Nat)/\s3= .slice A' n' c'/\Hid (oA us=ws.take j)/\Hid (kQ.Own wr w.heap.size (.slice A' n' c') us)/\Hid (∀t∈us,qB kQ wr (fun b=>w.heap.size<=b/\(Value.slice A' n' c').ownBlock≠some b) t)/\Hid (eA w wr)
def TQ(w:World)(g:Nat)(tag key:wA)(A:jA)(n c:Nat)(A2:jA)(n2 c2:Nat):Prop:=w.heap[g]? = some (.cells #[aA 1,bA tag,bA key,bA zB,.slice A n c,.slice A2 n2 c2] 117 (0,0))
section
variable{w w':World}{g:Nat}{tag key:wA}{A A2:jA}{n c n2 k2:Nat}
theorem TQ.c0(h:TQ w g tag key A n c A2 n2 k2):w.cell? (dA g 0)=some (aA 1):=cell_of_row w g 0 _ _ (0,0) h
theorem TQ.c1(h:TQ w g tag key A n c A2 n2 k2):w.cell? (dA g 1)=some (bA tag):=cell_of_row w g 1 _ _ (0,0) h
theorem TQ.c2(h:TQ w g tag key A n c A2 n2 k2):w.cell? (dA g 2)=some (bA key):=cell_of_row w g 2 _ _ (0,0) h
theorem TQ.c3(h:TQ w g tag key A n c A2 n2 k2):w.cell? (dA g 3)=some (bA zB):=cell_of_row w g 3 _ _ (0,0) h
theorem TQ.c4(h:TQ w g tag key A n c A2 n2 k2):w.cell? (dA g 4)=some (.slice A n c):=cell_of_row w g 4 _ _ (0,0) h
theorem TQ.c5(h:TQ w g tag key A n c A2 n2 k2):w.cell? (dA g 5)=some (.slice A2 n2 k2):=cell_of_row w g 5 _ _ (0,0) h
theorem TQ.fr(h:TQ w g tag key A n c A2 n2 k2)(k:Nat):w.frozen? (dA g k)=false:=by simp[World.frozen?,(show w.heap[g]? = _ from h)]
end
structure dI(W wr:World)(tag key:wA)(A:jA)(n c:Nat)(ats:List P3.At):Prop where
 tq:TQ wr W.heap.size tag key A n c none 0 0
 own:kA.Own wr (W.heap.size+1) (.slice A n c) ats
 hb:eA W wr
theorem dI.app{W wr w7:World}{o:Obj}{tag key:wA}{A A7:jA}{n c n7 c7:Nat}{ats:List P3.At}{a:P3.At}(h:dI W wr tag key A n c ats)(hg:(wr.drew.alloc o).grownBy w7 (Value.slice A n c).ownBlock)(hown:kA.Own w7 (W.heap.size+1) (.slice A7 n7 c7) (ats++[a])):
 dI W (w7.setCell ⟨W.heap.size,4,none⟩ (.slice A7 n7 c7)) tag key A7 n7 c7 (ats++[a]):=by
 have f:=FA h.tq;have g:w7.heap[W.heap.size]? = some (.cells #[aA 1,bA tag,bA key,bA zB,.slice A n c,vA] 117 (0,0)):=
  (hg.block _ AA (fun e=>by have:=(h.own.lt e.symm).1;omega)).trans (oB (w:=wr.drew) h.tq)
 have d:eA W w7:=(h.hb.drew.alloc h.hb.size o).grown hg (by have:=h.hb.size;simp;omega) (fun k j=>by have:=(h.own.lt j).1;omega);refine⟨heap_set g 4 _,hown.sB (fun b l=>Below.heap_setCell _ _ _ _ (fun e=>by have:=(hown.lt l).1;simp at e;omega)),?_⟩
 ·have:=gA.setCell (S:=fun b=>b=W.heap.size) (p:=⟨W.heap.size,4,none⟩) (gA.refl _ w7) (fun _=>rfl) (.slice A7 n7 c7);exact d.trans (this.AB (fun i _ m=>by omega) d.size)
theorem dI.kids{W wr w2:World}{tag key:wA}{A Ak:jA}{n c nk ck:Nat}{ats:List P3.At}(h:dI W wr tag key A n c ats)(hb:eA wr w2):
 TQ (w2.setCell ⟨W.heap.size,5,none⟩ (.slice Ak nk ck)) W.heap.size tag key A n c Ak nk ck/\kA.Own (w2.setCell ⟨W.heap.size,5,none⟩ (.slice Ak nk ck)) (W.heap.size+1) (.slice A n c) ats/\eA W (w2.setCell ⟨W.heap.size,5,none⟩ (.slice Ak nk ck)):=by
 have a:=FA h.tq;have f:=(hb.block _ a).trans h.tq;refine⟨heap_set f 5 _,(h.own.below hb Zl).sB (fun b hb=>Below.heap_setCell _ _ _ _ (fun e=>by have:=(h.own.lt hb).1;simp at e;omega)),?_⟩
 ·have:=gA.setCell (S:=fun b=>b=W.heap.size) (p:=⟨W.heap.size,5,none⟩) (gA.refl _ w2) (fun _=>rfl) (.slice Ak nk ck);have d:=h.hb.trans (hb.mono h.hb.size);exact d.trans (this.AB (fun i _ g=>by omega) d.size)
theorem Vk{w2:World}{g C:Nat}{v u:Value}{ks:List WV}(h:kQ.Own w2 C v ks)(hg:g<C)(i:Nat):kQ.Own (w2.setCell (dA g i) u) C v ks:=h.sB (fun b a=>Below.heap_setCell _ _ _ _ (by rintro rfl;have:=(h.lt a).1;omega))
theorem Xk{w2:World}{g:Nat}{u:Value}{t:WV}{Q:Nat->Prop}(h:qB kQ w2 Q t)(hq:∀b,Q b->b≠g)(hg:∃cur,w2.heap[g]? = some (.cells cur 117 (0,0)))(i:Nat):qB kQ (w2.setCell (dA g i) u) Q t:=
 h.but (gA.setCell (S:=fun b=>b=g) (p:=(dA g i)) (gA.refl _ _) (fun _=>rfl) u) hq (J1 (e:=117) nA (fun b e=>by subst e;exact hg))
def wL(W:World)(tag key:wA)(attrs:List P3.At)(i:Nat)(s6:Value)(wr:World):Prop:=∃(m:Nat) (A:jA) (n c:Nat),m<=attrs.length/\s6 = aA ((i+1+m:Nat):Int)/\Hid (dI W wr tag key A n c (attrs.take m))
def PV(N:Nat):Prop:=∀(ws:List PW) (l:List In) (A:jA) (n c:Nat) (w:World),(∀t∈ws,VB t)->l=cB ws->l.length=n->n<=N->kX.pA w w.heap.size A l->n<=c->c<=maxLen->n<=1000->fA 30 #[.slice A n c] w (Wv kQ w ws)
theorem Yk(N:Nat)(IH:∀M,M<N->PV M):PV N:=by
 intro q l A n c w ay az hn br hh bs b0 hl;have KH:=Zh hh;have KL:=Zh hn;have ba:=Zh ay;have bb:=Zh az;have HI:=Zh IH;have bt:q.length<=n:=(by have:=Uk ay;rw[<-az] at this;omega);have KC:=Zh b0;have bq:c<=9223372036854775807:=(by unfold maxLen at b0;omega);have ST:Hid (zH w q (vA) (aA 0) w):=Zh ⟨0,none,0,0,[],by omega,by simp[cB],rfl,Zh (by simp[oA]),Zh (Kind.Own.nil kQ w _),Zh (by intro t ht;cases ht),Zh Ze⟩;clear hh hn ay az IH b0;go_enter func30,ntmps30;go_wp2_with fail;go_loopw [3,4] (fun s3 s4 wr=>zH w q s3 s4 wr) (fun _ s4 _=>n-(intOf s4).toNat)
 case atStart=>exact ST
 case round=>
  obtain⟨j,A',n',c',us,hj,rfl,rfl,HU,HO,HT,T⟩:=hrel;clear ST;obtain⟨W,rfl⟩:∃W:World,W=wr:=⟨_,rfl⟩;by_cases ap:j<q.length
  ·have b1:=ba _ (List.getElem_mem ap);have L:Hid (l=cB (q.take j)++(pB q[j]++cB (q.drop (j+1)))):=Zh (by rw[bb.out];exact Df ap);have a7:=Zh (LY ap);have a8:Hid (q.take (j+1)=q.take j++[q[j]]):=Zh (by rw[List.take_add_one,List.getElem?_eq_getElem ap];rfl);have bc:Hid (zG (cB (q.drop (j+1)))):=Zh (by
    have:=oP (l:=q.drop (j+1)) (r:=[]) (fun t ht=>ba t (List.mem_of_mem_drop ht)) zG.nil;rwa[List.append_nil] at this)
   have bd:us.length<=1000:=by
    have h1:=congrArg List.length HU;rw[IB,List.length_map,List.length_take] at h1;omega
   have ae:=Zh bd;generalize q[j]=e at b1 L a7 a8;generalize cB (q.drop (j+1))=C at L bc;obtain⟨i,hi⟩:=qA ((cB (q.take j)).length);have u:=Zh hi;rw[hi];have ag:=congrArg List.length L;rw[List.length_append,List.length_append,KL.out,hi] at ag;have be:=jY b1;have bu:i<n:=cA;have bf:i<l.length:=(uA KL.out);have a5:Hid (∀x r,pB e=x:: r->l[i]=x):=Zh (fun x r hx=>by
    have:=Dh L hx (by rw[hi];exact bf);simpa only[hi] using this)
   obtain⟨b,o,rfl,hb,bg,bh,bi⟩:=TG KH bf;have G:Hid (∀D,eA w D->D.cell? ⟨b,o+i*3,none⟩=some (aA l[i].op)/\D.cell? ⟨b,o+i*3+1,none⟩=some (bA l[i].a)/\D.cell? ⟨b,o+i*3+2,none⟩=some (bA l[i].b)):=Zh (fun D h=>⟨(h.cell hb).trans bg,(h.cell hb).trans bh,(h.cell hb).trans bi⟩);have ah:=Zh ag;have O:=T.size;clear ag be bg bh bi hi bd;cases b1 with
   |tx hm=>
    rename_i t0;have e0:=a5 _ _ (show pB (.mk 2 z0 z0 t0 [] [])=[⟨4,t0,z0⟩] by rw[pB,if_neg nA,if_pos rfl]);rw[e0] at G;clear e0;have U:=(G W T).1;have V:=(G W T).2.1;simp only at U V;have NL:Hid ((cB (q.take (j+1))).length=i+1):=Zh (by rw[a7.out,List.length_append,u.out,show pB (.mk 2 z0 z0 t0 [] [])=[⟨4,t0,z0⟩] by rw[pB,if_neg nA,if_pos rfl]];rfl);go_wp2_with (at_builtin;refine kQ.iC rfl _ _ rfl (v:=.slice A' n' c') (l:=us) (m:=[uR 2 t0]) (B:=w.heap.size) rfl (HO.alloc _) rfl rfl RB (Kind.pA.lit (heap_alloc_new _ _) rfl) (by have:=ae.out;simp;omega) AA ?_;intro v' w4 d f z);obtain⟨A4,n4,c4,rfl,P,Q,e3,e4,e5⟩:=d.slice;have I:=FK (K:=kQ) nA HO HT (cU W 2 t0 _) f z;have B4:Hid (eA w w4):=Zh (T.trans (I.2.AB (fun i _ hi=>(HO.lt hi).1) O));have J:Hid (zH w q (.slice A4 n4 c4) (aA ((i+1:Nat):Int)) w4):=Zh ⟨j+1,A4,n4,c4,_,by omega,by rw[NL.out],rfl,Zh (by rw[DK,HU.out,a8.out];congr 1),Zh d,Zh I.1,B4⟩;clear I d f z P Q e3 e4 e5 U V;go_wp2_with fail;go_roundw
    case rel=>exact J
    case measure=>simp[intOf];omega
   |nd=>
    have e0:=a5 _ _ (show pB (.mk 3 z0 z0 z0 [] [])=[⟨8,z0,z0⟩] by rw[pB,if_neg nA,if_neg nA,if_pos rfl]);rw[e0] at G;clear e0;have U:=(G W T).1;have V:=(G W T).2.1;simp only at U V;have NL:Hid ((cB (q.take (j+1))).length=i+1):=Zh (by rw[a7.out,List.length_append,u.out,show pB (.mk 3 z0 z0 z0 [] [])=[⟨8,z0,z0⟩] by rw[pB,if_neg nA,if_neg nA,if_pos rfl]];rfl);go_wp2_with (at_builtin;refine kQ.iC rfl _ _ rfl (v:=.slice A' n' c') (l:=us) (m:=[uR 3 zB]) (B:=w.heap.size) rfl (HO.alloc _) rfl rfl RB (Kind.pA.lit (heap_alloc_new _ _) rfl) (by have:=ae.out;simp;omega) AA ?_;intro v' w4 d f z);obtain⟨A4,n4,c4,rfl,P,Q,e3,e4,e5⟩:=d.slice;have I:=FK (K:=kQ) nA HO HT (cU W 3 zB _) f z;have B4:Hid (eA w w4):=Zh (T.trans (I.2.AB (fun i _ hi=>(HO.lt hi).1) O));have J:Hid (zH w q (.slice A4 n4 c4) (aA ((i+1:Nat):Int)) w4):=Zh ⟨j+1,A4,n4,c4,_,by omega,by rw[NL.out],rfl,Zh (by rw[DK,HU.out,a8.out];congr 1),Zh d,Zh I.1,B4⟩;clear I d f z P Q e3 e4 e5 U V;go_wp2_with fail;go_roundw
    case rel=>exact J
    case measure=>simp[intOf];omega
   |al=>
    have e0:=a5 _ _ (show pB (.mk 4 z0 z0 z0 [] [])=[⟨7,z0,z0⟩] by rw[pB,if_neg nA,if_neg nA,if_neg nA,if_pos rfl]);rw[e0] at G;clear e0;have U:=(G W T).1;have V:=(G W T).2.1;simp only at U V;have NL:Hid ((cB (q.take (j+1))).length=i+1):=Zh (by rw[a7.out,List.length_append,u.out,show pB (.mk 4 z0 z0 z0 [] [])=[⟨7,z0,z0⟩] by rw[pB,if_neg nA,if_neg nA,if_neg nA,if_pos rfl]];rfl);go_wp2_with (at_builtin;refine kQ.iC rfl _ _ rfl (v:=.slice A' n' c') (l:=us) (m:=[uR 4 zB]) (B:=w.heap.size) rfl (HO.alloc _) rfl rfl RB (Kind.pA.lit (heap_alloc_new _ _) rfl) (by have:=ae.out;simp;omega) AA ?_;intro v' w4 d f z);obtain⟨A4,n4,c4,rfl,P,Q,e3,e4,e5⟩:=d.slice;have I:=FK (K:=kQ) nA HO HT (cU W 4 zB _) f z;have B4:Hid (eA w w4):=Zh (T.trans (I.2.AB (fun i _ hi=>(HO.lt hi).1) O));have J:Hid (zH w q (.slice A4 n4 c4) (aA ((i+1:Nat):Int)) w4):=Zh ⟨j+1,A4,n4,c4,_,by omega,by rw[NL.out],rfl,Zh (by rw[DK,HU.out,a8.out];congr 1),Zh d,Zh I.1,B4⟩;clear I d f z P Q e3 e4 e5 U V;go_wp2_with fail;go_roundw
    case rel=>exact J
    case measure=>simp[intOf];omega
   |vo hm ha=>
    rename_i tag key attrs;have ar:=hm;have y:=lJ (key:=key) (txt:=z0) (attrs:=attrs) (kids:=[]) (II hm);have e0:=a5 _ _ y;rw[e0] at G;clear e0;obtain⟨U,V,g2⟩:=G W T;(try simp only at U V g2);have af:Hid (attrs.length+1<=(pB (PW.mk 1 tag key z0 attrs [])).length):=Zh (by rw[y];simp only[List.length_cons,List.length_append,List.length_map,List.length_nil];omega);have bm:i+attrs.length<n:=(by have:=af.out;have:=ah.out;omega);have ai:Hid (∀m (h:m<attrs.length),∀(h2:i+1+m<l.length),l[i+1+m]=dC attrs[m]):=Zh (fun m h h2=>by
     have h3:m+1<(pB (PW.mk 1 tag key z0 attrs [])++C).length:=(by rw[List.length_append,y];simp only[List.length_cons,List.length_append,List.length_map];omega);have h4:=ZM L (i:=m+1) (by rw[u.out];omega) h3;have h5:l[i+1+m]=l[(cB (q.take j)).length+(m+1)]'(by rw[u.out];omega):=(by congr 1;rw[u.out];omega);rw[h5,h4];simp only[y,List.cons_append,List.getElem_cons_succ];rw[List.getElem_append_left (by rw[List.length_map];exact h)];rw[List.getElem_map])
    have aj:Hid (∀(h:i+1+attrs.length<l.length),JB l[i+1+attrs.length].op=false):=Zh (fun h=>by
     have h6:l=(cB (q.take j)++(⟨3,tag,key⟩:: attrs.map dC))++(C):=(by rw[L.out,y];simp only[List.append_assoc,List.cons_append,List.nil_append]);have h7:(cB (q.take j)++(⟨3,tag,key⟩:: attrs.map dC)).length=i+1+attrs.length:=(by simp only[List.length_append,List.length_cons,List.length_map,u.out];omega);have h8:0<(C).length:=by
      have:=congrArg List.length h6;rw[List.length_append,h7] at this;omega
     have h9:=ZM h6 (i:=0) (by rw[h7];simpa using h) h8;have b3:l[i+1+attrs.length]=l[(cB (q.take j)++(⟨3,tag,key⟩:: attrs.map dC)).length+0]'(by rw[h7];simpa using h):=(by congr 1;rw[h7];rfl);rw[b3,h9];have hh:zG (C):=bc;exact hh _ (by rw[List.head?_eq_getElem?,List.getElem?_eq_getElem h8]))
    go_upto_region 14 with fail;go_cut [5] (fun s5 wx=>s5 = iA W.heap.size/\Hid (eA W wx)/\Hid (TQ wx W.heap.size tag key none 0 0 none 0 0))
    case first=>
     go_region_held3 (fun w'=>w'.cell? ⟨b,o+i*3+1,none⟩=some (bA tag)/\w'.cell? ⟨b,o+i*3+2,none⟩=some (bA key)) (go_keep) (fail)
     all_goals
      go_wp2_with fail;go_meet;exact⟨rfl,Zh ((Zb _ _).drew),Zh (P5.heap_drew (heap_alloc_new W _))⟩
    case rest=>
    obtain⟨rfl,b2,t2⟩:=hcut;obtain⟨w2,rfl⟩:∃w2,w2=wc:=⟨_,rfl⟩;have AS:Hid (dI W w2 tag key none 0 0 []):=Zh ⟨t2,Kind.Own.nil kA w2 _,b2⟩;have ak:Hid (wL W tag key attrs i (aA ((i:Int)+1)) w2):=Zh ⟨0,none,0,0,by omega,by go_num,AS⟩;clear b2 t2 AS U V g2;go_wp2_with fail;go_loopw [6] (fun s6 wr=>wL W tag key attrs i s6 wr) (fun s6 _=>n-(intOf s6).toNat)
    case atStart=>exact ak
    case round=>
     obtain⟨m,A,X,Y,hm,rfl,E⟩:=hrel;clear ak;obtain⟨k,Z⟩:=qA (i+1+m);have KM:=Zh Z;rw[Z];have a1:Hid (∀(h:k<l.length),∀D,eA w D->D.cell? ⟨b,o+k*3,none⟩=some (aA l[k].op)/\D.cell? ⟨b,o+k*3+1,none⟩=some (bA l[k].a)/\D.cell? ⟨b,o+k*3+2,none⟩=some (bA l[k].b)):=Zh (fun h D hz=>by
      obtain⟨b',o',a9,bn,y0,y1,y2⟩:=TG (KH.on hz) h;injection a9 with a9;injection a9 with P Q _;subst P;subst Q;exact⟨y0,y1,y2⟩)
     by_cases am:m<attrs.length
     ·have b4:k<n:=cA;have a2:k<l.length:=(uA KL.out);have ex:l[k]=dC attrs[m]:=by
       have:=ai m am cA;rw[<-this];congr 1;omega
      have GK:Hid (∀D,eA w D->D.cell? ⟨b,o+k*3,none⟩=some (aA (dC attrs[m]).op)/\D.cell? ⟨b,o+k*3+1,none⟩=some (bA (dC attrs[m]).a)/\D.cell? ⟨b,o+k*3+2,none⟩=some (bA (dC attrs[m]).b)):=Zh (fun D hz=>by
       have:=a1 a2 D hz;rwa[ex] at this)
      have TK:Hid (attrs.take (m+1)=attrs.take m++[attrs[m]]):=Zh (by rw[List.take_add_one,List.getElem?_eq_getElem am];rfl);have TL:Hid ((attrs.take m).length<=1000):=Zh (by rw[List.length_take];omega);have b6:Hid (i+1+(m+1)=k+1):=Zh cA;clear ex a2 Z a1;generalize attrs[m]=b7 at GK TK;obtain⟨nm,vl,st⟩:=b7;simp only[dC] at GK;obtain⟨vi,a3⟩:∃v:Int,(if st then 6 else 5)=v:=⟨_,rfl⟩;have b8:JB vi=true:=(by rw[<-a3];cases st<;>rfl);have q6:(vi==6)=st:=(by rw[<-a3];cases st<;>rfl);rw[a3] at GK;clear a3;have R:=Zh (T.trans (E.hb.mono O));obtain⟨k0,k1,k2⟩:=GK wr R;have d4:wr.cell? ⟨W.heap.size,4,none⟩=some (.slice A X Y):=E.tq.c4;go_wp2_with fail;refine(WJ _ wr).mono ?_;rintro e w' ⟨rfl,rfl⟩;rw[b8];go_upto_region 17 with fail;refine Tl.GH (S:=(fun w'=>w'.cell? ⟨W.heap.size,4,none⟩=some (.slice A X Y)/\w'.cell? ⟨b,o+k*3,none⟩=some (aA vi)/\w'.cell? ⟨b,o+k*3+1,none⟩=some (bA nm)/\w'.cell? ⟨b,o+k*3+2,none⟩=some (bA vl))) (by kernel_rfl) 22 _ rfl rfl rfl (by kernel_rfl) (by go_keep) (fun hHeld=>?_);simp only[List.setIfInBounds_toArray,List.set_cons_zero,List.set_cons_succ,Tl.idle];refine Zn 0 ?_;refine Zn 1 ?_;refine Zn 2 ?_;refine Zn 3 ?_;refine Zn 4 ?_;refine Zn 5 ?_;refine Zn 6 ?_;refine Zn 7 ?_;refine Zn 8 ?_;refine Zn 9 ?_;refine Zn 10 ?_;refine Zn 11 ?_;refine Zn 12 ?_;refine Zn 13 ?_;refine Zn 14 ?_;refine Zn 15 ?_;refine Zn 16 ?_;refine Zn 17 ?_;refine Zn 18 ?_;refine Zr [19] ?_;refine AllReadyH.cons rfl (fun K hK=>?_) ?_
      ·go_simp;refine hK _ _ ?_ (fun hHeld=>?_)
       ·go_keep
       clear hK K;(try simp only[Zs]);refine Zr [20] ?_;refine AllReadyH.cons rfl (fun K hK=>?_) ?_
       ·refine kA.tG rfl (.tmp 71) (.tmp 89) rfl (v:=.slice A X Y) (l:=attrs.take m) (m:=[⟨nm,vl,st⟩]) (B:=W.heap.size+1) (A:=some ⟨wr.heap.size,0,none⟩) (n:=1) (c:=1) rfl (E.own.drew.alloc _) rfl rfl RB (Kind.pA.lit (heap_alloc_new _ _) rfl) (by have:=TL.out;simp;omega) (by have:=FA E.tq;simp;omega) ?_;intro v7 w7 F g an;obtain⟨A7,n7,c7,rfl,_,_,_,_,_⟩:=F.slice;have AP:=E.app g F;have t7:w7.heap[W.heap.size]? = _:=((g.block _ (by have:=FA E.tq;simp;omega) (fun e=>by have:=(E.own.lt e.symm).1;omega)).trans (oB (w:=wr.drew) E.tq));have e7:=IA 4 t7;have f7:w7.frozen? ⟨W.heap.size,4,none⟩=false:=(by simp[World.frozen?,t7]);have B7:eA W w7:=(E.hb.drew.alloc E.hb.size _).grown g (by have:=E.hb.size;simp;omega) (fun k Z=>by have:=(E.own.lt Z).1;omega);have G7:=GK w7 (T.trans (B7.mono O));clear F g an t7;refine hK _ _ ?_ (fun hHeld=>?_)
        ·exact⟨e7,G7.1,G7.2.1,G7.2.2⟩
        clear hK K;(try simp only[Zs]);refine Zn 21 ?_;refine Zn 22 ?_;refine wpAnyH_done (by kernel_rfl) ?_ _;intro K hK;go_simp;refine hK _ _ ?_;clear hK K;have ao:Hid (dI W (w7.setCell ⟨W.heap.size,4,none⟩ (.slice A7 n7 c7)) tag key A7 n7 c7 (attrs.take (m+1))):=Zh (by rw[TK.out];exact AP);generalize w7.setCell ⟨W.heap.size,4,none⟩ (.slice A7 n7 c7)=w9 at ao|-;clear AP e7 f7 B7 G7;go_wp2_with fail;go_roundw
        case rel=>exact⟨m+1,A7,n7,c7,by omega,by rw[b6.out];go_num,ao⟩
        case measure=>(simp[intOf];have:=KM.out;omega)
       exact AllReadyH.nil
      exact AllReadyH.nil
     ·obtain rfl:m=attrs.length:=cA
      have p:Hid (dI W wr tag key A X Y attrs):=Zh (by have:=E.out;rwa[List.take_length] at this);have R:=Zh (T.trans (E.hb.mono O));clear E;by_cases b4:k<n
      ·have a2:k<l.length:=(uA KL.out);have aa:Hid (JB l[k].op=false):=Zh (by
        have:=aj cA;have e:l[i+1+attrs.length]'cA=l[k]:=(by congr 1);rwa[e] at this)
       obtain⟨k0,k1,k2⟩:=a1 a2 wr R;clear a1 Z;generalize l[k]=xk at k0 k1 k2 aa;obtain⟨ko,ka,kb⟩:=xk;simp only at k0 k1 k2 aa;go_wp2_with fail;refine zA (WJ ko wr) ?_;rw[aa.out];have CE:Hid (fA 61 #[.slice (some (dA b o)) n c,aA i] wr fun e w'=>e= .returned (aA ((i+attrs.length:Nat):Int))/\wr=w'):=Zh (by
        have ac:i<l.length:=(uA KL.out);exact KY l _ n c i attrs.length wr ((KH.below R Zl).more R.size) KL hl ac (by rw[a5.out _ _ y]) cA (fun x h h1 h2=>by
         have:=ai (x-1) cA cA;have e:l[i+x]=l[i+1+(x-1)]'cA:=(by congr 1;omega);rw[e,this];cases hst:(attrs[x-1]'cA).st<;>simp[dC,hst,JB]) (fun h=>by
         have:=aj cA;have e:l[i+attrs.length+1]=l[i+1+attrs.length]'cA:=(by congr 1;omega);rw[e];exact this))
       obtain⟨U,V,g2⟩:=G wr R;(try simp only at U V g2);have H:Hid (i+attrs.length+1=(cB (q.take (j+1))).length):=Zh (by rw[a7.out,List.length_append,u.out,y];simp only[List.length_cons,List.length_map];omega);generalize a4:i+attrs.length=la at CE H;have bj:la<n:=cA;have au:i<=la:=cA;clear a4;go_wp2_with fail;refine zA CE ?_;have t0:=p.tq.c0;have t1:=p.tq.c1;have t2:=p.tq.c2;have t3:=p.tq.c3;have t4:=p.tq.c4;have t5:=p.tq.c5;have O5:=Zh (HO.below p.hb Zl);have T5:Hid (∀t∈us,qB kQ wr (fun b=>w.heap.size<=b/\(Value.slice A' n' c').ownBlock≠some b) t):=Zh (fun t ht=>(HT t ht).qC p.hb);have a0:Hid (qB kQ wr (fun b=>w.heap.size<=b/\(Value.slice A' n' c').ownBlock≠some b) (.mk 1 tag key zB ⟨A,X,Y⟩ attrs ⟨none,0,0⟩ [])):=Zh (by
        obtain⟨s,hv,ha⟩:=nB.own p.own;have e:s=⟨A,X,Y⟩:=by
         obtain⟨As,ns,cs⟩:=s;unfold Sv.val at hv;injection hv with P Q e3;subst P;subst Q;subst e3;rfl
        subst e;exact qB.mk (sk:=⟨none,0,0⟩) ha (Kind.Own.nil kQ wr 0) (fun b hb=>by cases hb) (fun k Z=>by cases Z))
       have a6:=R.size;go_wp2_with (at_builtin;refine kQ.iC rfl _ _ rfl (v:=.slice A' n' c') (l:=us) (m:=[.mk 1 tag key zB ⟨A,X,Y⟩ attrs ⟨none,0,0⟩ []]) (B:=w.heap.size) rfl (O5.alloc _) rfl rfl RB (Kind.pA.lit (heap_alloc_new _ _) rfl) (by have:=ae.out;simp;omega) AA ?_;intro v' w4 d f z);obtain⟨A4,n4,c4,rfl,P,Q,e3,e4,e5⟩:=d.slice;have I:=FK (K:=kQ) nA O5 T5 a0 f z;have B4:Hid (eA w w4):=Zh (R.trans (I.2.AB (fun i _ hi=>(O5.lt hi).1) a6));have J:Hid (zH w q (.slice A4 n4 c4) (aA ((la+1:Nat):Int)) w4):=Zh ⟨j+1,A4,n4,c4,_,by omega,by rw[H.out],rfl,Zh (by rw[DK,HU.out,a8.out];congr 1),Zh d,Zh I.1,B4⟩;clear I d f z P Q e3 e4 e5;go_wp2_with fail;go_roundw
       case rel=>exact J
       case measure=>(simp[intOf];omega)
      ·have CE:Hid (fA 61 #[.slice (some (dA b o)) n c,aA i] wr fun e w'=>e= .returned (aA ((i+attrs.length:Nat):Int))/\wr=w'):=Zh (by
        have ac:i<l.length:=(uA KL.out);exact KY l _ n c i attrs.length wr ((KH.below R Zl).more R.size) KL hl ac (by rw[a5.out _ _ y]) cA (fun x h h1 h2=>by
         have:=ai (x-1) cA cA;have e:l[i+x]=l[i+1+(x-1)]'cA:=(by congr 1;omega);rw[e,this];cases hst:(attrs[x-1]'cA).st<;>simp[dC,hst,JB]) (fun h=>by
         have:=aj cA;have e:l[i+attrs.length+1]=l[i+1+attrs.length]'cA:=(by congr 1;omega);rw[e];exact this))
       obtain⟨U,V,g2⟩:=G wr R;(try simp only at U V g2);have H:Hid (i+attrs.length+1=(cB (q.take (j+1))).length):=Zh (by rw[a7.out,List.length_append,u.out,y];simp only[List.length_cons,List.length_map];omega);generalize a4:i+attrs.length=la at CE H;have bj:la<n:=cA;have au:i<=la:=cA;clear a4;go_wp2_with fail;refine CE.mono ?_;rintro e w' ⟨rfl,rfl⟩;have t0:=p.tq.c0;have t1:=p.tq.c1;have t2:=p.tq.c2;have t3:=p.tq.c3;have t4:=p.tq.c4;have t5:=p.tq.c5;have O5:=Zh (HO.below p.hb Zl);have T5:Hid (∀t∈us,qB kQ wr (fun b=>w.heap.size<=b/\(Value.slice A' n' c').ownBlock≠some b) t):=Zh (fun t ht=>(HT t ht).qC p.hb);have a0:Hid (qB kQ wr (fun b=>w.heap.size<=b/\(Value.slice A' n' c').ownBlock≠some b) (.mk 1 tag key zB ⟨A,X,Y⟩ attrs ⟨none,0,0⟩ [])):=Zh (by
        obtain⟨s,hv,ha⟩:=nB.own p.own;have e:s=⟨A,X,Y⟩:=by
         obtain⟨As,ns,cs⟩:=s;unfold Sv.val at hv;injection hv with P Q e3;subst P;subst Q;subst e3;rfl
        subst e;exact qB.mk (sk:=⟨none,0,0⟩) ha (Kind.Own.nil kQ wr 0) (fun b hb=>by cases hb) (fun k Z=>by cases Z))
       have a6:=R.size;go_wp2_with (at_builtin;refine kQ.iC rfl _ _ rfl (v:=.slice A' n' c') (l:=us) (m:=[.mk 1 tag key zB ⟨A,X,Y⟩ attrs ⟨none,0,0⟩ []]) (B:=w.heap.size) rfl (O5.alloc _) rfl rfl RB (Kind.pA.lit (heap_alloc_new _ _) rfl) (by have:=ae.out;simp;omega) AA ?_;intro v' w4 d f z);obtain⟨A4,n4,c4,rfl,P,Q,e3,e4,e5⟩:=d.slice;have I:=FK (K:=kQ) nA O5 T5 a0 f z;have B4:Hid (eA w w4):=Zh (R.trans (I.2.AB (fun i _ hi=>(O5.lt hi).1) a6));have J:Hid (zH w q (.slice A4 n4 c4) (aA ((la+1:Nat):Int)) w4):=Zh ⟨j+1,A4,n4,c4,_,by omega,by rw[H.out],rfl,Zh (by rw[DK,HU.out,a8.out];congr 1),Zh d,Zh I.1,B4⟩;clear I d f z P Q e3 e4 e5;go_wp2_with fail;go_roundw
       case rel=>exact J
       case measure=>(simp[intOf];omega)
   |el hm ha Z=>
    rename_i tag key attrs kids;have b9:=Z;clear Z;have ar:=hm;have y:=lI (key:=key) (txt:=z0) (attrs:=attrs) (kids:=kids) (FI hm);have e0:=a5 _ _ y;rw[e0] at G;clear e0;obtain⟨U,V,g2⟩:=G W T;(try simp only at U V g2);have af:Hid (attrs.length+2<=(pB (PW.mk 1 tag key z0 attrs kids)).length):=Zh (by rw[y];simp only[List.length_cons,List.length_append,List.length_map,List.length_nil];omega);have bm:i+attrs.length<n:=(by have:=af.out;have:=ah.out;omega);have ai:Hid (∀m (h:m<attrs.length),∀(h2:i+1+m<l.length),l[i+1+m]=dC attrs[m]):=Zh (fun m h h2=>by
     have h3:m+1<(pB (PW.mk 1 tag key z0 attrs kids)++C).length:=(by rw[List.length_append,y];simp only[List.length_cons,List.length_append,List.length_map];omega);have h4:=ZM L (i:=m+1) (by rw[u.out];omega) h3;have h5:l[i+1+m]=l[(cB (q.take j)).length+(m+1)]'(by rw[u.out];omega):=(by congr 1;rw[u.out];omega);rw[h5,h4];simp only[y,List.cons_append,List.getElem_cons_succ];rw[List.getElem_append_left AA];rw[List.getElem_append_left (by simpa using h),List.getElem_map])
    have aj:Hid (∀(h:i+1+attrs.length<l.length),JB l[i+1+attrs.length].op=false):=Zh (fun h=>by
     have h6:l=(cB (q.take j)++(⟨1,tag,key⟩:: attrs.map dC))++(cB kids++(⟨2,z0,z0⟩:: C)):=(by rw[L.out,y];simp only[List.append_assoc,List.cons_append,List.nil_append]);have h7:(cB (q.take j)++(⟨1,tag,key⟩:: attrs.map dC)).length=i+1+attrs.length:=(by simp only[List.length_append,List.length_cons,List.length_map,u.out];omega);have h8:0<(cB kids++(⟨2,z0,z0⟩:: C)).length:=by
      have:=congrArg List.length h6;rw[List.length_append,h7] at this;omega
     have h9:=ZM h6 (i:=0) (by rw[h7];simpa using h) h8;have b3:l[i+1+attrs.length]=l[(cB (q.take j)++(⟨1,tag,key⟩:: attrs.map dC)).length+0]'(by rw[h7];simpa using h):=(by congr 1;rw[h7];rfl);rw[b3,h9];have hh:zG (cB kids++(⟨2,z0,z0⟩:: C)):=oP b9 (zG.cons rfl);exact hh _ (by rw[List.head?_eq_getElem?,List.getElem?_eq_getElem h8]))
    go_upto_region 14 with fail;go_cut [5] (fun s5 wx=>s5 = iA W.heap.size/\Hid (eA W wx)/\Hid (TQ wx W.heap.size tag key none 0 0 none 0 0))
    case first=>
     go_region_held3 (fun w'=>w'.cell? ⟨b,o+i*3+1,none⟩=some (bA tag)/\w'.cell? ⟨b,o+i*3+2,none⟩=some (bA key)) (go_keep) (fail)
     all_goals
      go_wp2_with fail;go_meet;exact⟨rfl,Zh ((Zb _ _).drew),Zh (P5.heap_drew (heap_alloc_new W _))⟩
    case rest=>
    obtain⟨rfl,b2,t2⟩:=hcut;obtain⟨w2,rfl⟩:∃w2,w2=wc:=⟨_,rfl⟩;have AS:Hid (dI W w2 tag key none 0 0 []):=Zh ⟨t2,Kind.Own.nil kA w2 _,b2⟩;have ak:Hid (wL W tag key attrs i (aA ((i:Int)+1)) w2):=Zh ⟨0,none,0,0,by omega,by go_num,AS⟩;clear b2 t2 AS U V g2;go_wp2_with fail;go_loopw [6] (fun s6 wr=>wL W tag key attrs i s6 wr) (fun s6 _=>n-(intOf s6).toNat)
    case atStart=>exact ak
    case round=>
     obtain⟨m,A,X,Y,hm,rfl,E⟩:=hrel;clear ak;obtain⟨k,Z⟩:=qA (i+1+m);have KM:=Zh Z;rw[Z];have a1:Hid (∀(h:k<l.length),∀D,eA w D->D.cell? ⟨b,o+k*3,none⟩=some (aA l[k].op)/\D.cell? ⟨b,o+k*3+1,none⟩=some (bA l[k].a)/\D.cell? ⟨b,o+k*3+2,none⟩=some (bA l[k].b)):=Zh (fun h D hz=>by
      obtain⟨b',o',a9,bn,y0,y1,y2⟩:=TG (KH.on hz) h;injection a9 with a9;injection a9 with P Q _;subst P;subst Q;exact⟨y0,y1,y2⟩)
     by_cases am:m<attrs.length
     ·have b4:k<n:=cA;have a2:k<l.length:=(uA KL.out);have ex:l[k]=dC attrs[m]:=by
       have:=ai m am cA;rw[<-this];congr 1;omega
      have GK:Hid (∀D,eA w D->D.cell? ⟨b,o+k*3,none⟩=some (aA (dC attrs[m]).op)/\D.cell? ⟨b,o+k*3+1,none⟩=some (bA (dC attrs[m]).a)/\D.cell? ⟨b,o+k*3+2,none⟩=some (bA (dC attrs[m]).b)):=Zh (fun D hz=>by
       have:=a1 a2 D hz;rwa[ex] at this)
      have TK:Hid (attrs.take (m+1)=attrs.take m++[attrs[m]]):=Zh (by rw[List.take_add_one,List.getElem?_eq_getElem am];rfl);have TL:Hid ((attrs.take m).length<=1000):=Zh (by rw[List.length_take];omega);have b6:Hid (i+1+(m+1)=k+1):=Zh cA;clear ex a2 Z a1;generalize attrs[m]=b7 at GK TK;obtain⟨nm,vl,st⟩:=b7;simp only[dC] at GK;obtain⟨vi,a3⟩:∃v:Int,(if st then 6 else 5)=v:=⟨_,rfl⟩;have b8:JB vi=true:=(by rw[<-a3];cases st<;>rfl);have q6:(vi==6)=st:=(by rw[<-a3];cases st<;>rfl);rw[a3] at GK;clear a3;have R:=Zh (T.trans (E.hb.mono O));obtain⟨k0,k1,k2⟩:=GK wr R;have d4:wr.cell? ⟨W.heap.size,4,none⟩=some (.slice A X Y):=E.tq.c4;go_wp2_with fail;refine(WJ _ wr).mono ?_;rintro e w' ⟨rfl,rfl⟩;rw[b8];go_upto_region 17 with fail;refine Tl.GH (S:=(fun w'=>w'.cell? ⟨W.heap.size,4,none⟩=some (.slice A X Y)/\w'.cell? ⟨b,o+k*3,none⟩=some (aA vi)/\w'.cell? ⟨b,o+k*3+1,none⟩=some (bA nm)/\w'.cell? ⟨b,o+k*3+2,none⟩=some (bA vl))) (by kernel_rfl) 22 _ rfl rfl rfl (by kernel_rfl) (by go_keep) (fun hHeld=>?_);simp only[List.setIfInBounds_toArray,List.set_cons_zero,List.set_cons_succ,Tl.idle];refine Zn 0 ?_;refine Zn 1 ?_;refine Zn 2 ?_;refine Zn 3 ?_;refine Zn 4 ?_;refine Zn 5 ?_;refine Zn 6 ?_;refine Zn 7 ?_;refine Zn 8 ?_;refine Zn 9 ?_;refine Zn 10 ?_;refine Zn 11 ?_;refine Zn 12 ?_;refine Zn 13 ?_;refine Zn 14 ?_;refine Zn 15 ?_;refine Zn 16 ?_;refine Zn 17 ?_;refine Zn 18 ?_;refine Zr [19] ?_;refine AllReadyH.cons rfl (fun K hK=>?_) ?_
      ·go_simp;refine hK _ _ ?_ (fun hHeld=>?_)
       ·go_keep
       clear hK K;(try simp only[Zs]);refine Zr [20] ?_;refine AllReadyH.cons rfl (fun K hK=>?_) ?_
       ·refine kA.tG rfl (.tmp 71) (.tmp 89) rfl (v:=.slice A X Y) (l:=attrs.take m) (m:=[⟨nm,vl,st⟩]) (B:=W.heap.size+1) (A:=some ⟨wr.heap.size,0,none⟩) (n:=1) (c:=1) rfl (E.own.drew.alloc _) rfl rfl RB (Kind.pA.lit (heap_alloc_new _ _) rfl) (by have:=TL.out;simp;omega) (by have:=FA E.tq;simp;omega) ?_;intro v7 w7 F g an;obtain⟨A7,n7,c7,rfl,_,_,_,_,_⟩:=F.slice;have AP:=E.app g F;have t7:w7.heap[W.heap.size]? = _:=((g.block _ (by have:=FA E.tq;simp;omega) (fun e=>by have:=(E.own.lt e.symm).1;omega)).trans (oB (w:=wr.drew) E.tq));have e7:=IA 4 t7;have f7:w7.frozen? ⟨W.heap.size,4,none⟩=false:=(by simp[World.frozen?,t7]);have B7:eA W w7:=(E.hb.drew.alloc E.hb.size _).grown g (by have:=E.hb.size;simp;omega) (fun k Z=>by have:=(E.own.lt Z).1;omega);have G7:=GK w7 (T.trans (B7.mono O));clear F g an t7;refine hK _ _ ?_ (fun hHeld=>?_)
        ·exact⟨e7,G7.1,G7.2.1,G7.2.2⟩
        clear hK K;(try simp only[Zs]);refine Zn 21 ?_;refine Zn 22 ?_;refine wpAnyH_done (by kernel_rfl) ?_ _;intro K hK;go_simp;refine hK _ _ ?_;clear hK K;have ao:Hid (dI W (w7.setCell ⟨W.heap.size,4,none⟩ (.slice A7 n7 c7)) tag key A7 n7 c7 (attrs.take (m+1))):=Zh (by rw[TK.out];exact AP);generalize w7.setCell ⟨W.heap.size,4,none⟩ (.slice A7 n7 c7)=w9 at ao|-;clear AP e7 f7 B7 G7;go_wp2_with fail;go_roundw
        case rel=>exact⟨m+1,A7,n7,c7,by omega,by rw[b6.out];go_num,ao⟩
        case measure=>(simp[intOf];have:=KM.out;omega)
       exact AllReadyH.nil
      exact AllReadyH.nil
     ·obtain rfl:m=attrs.length:=cA
      have p:Hid (dI W wr tag key A X Y attrs):=Zh (by have:=E.out;rwa[List.take_length] at this);have R:=Zh (T.trans (E.hb.mono O));clear E;by_cases b4:k<n
      ·have a2:k<l.length:=(uA KL.out);have aa:Hid (JB l[k].op=false):=Zh (by
        have:=aj cA;have e:l[i+1+attrs.length]'cA=l[k]:=(by congr 1);rwa[e] at this)
       obtain⟨k0,k1,k2⟩:=a1 a2 wr R;clear a1 Z;generalize l[k]=xk at k0 k1 k2 aa;obtain⟨ko,ka,kb⟩:=xk;simp only at k0 k1 k2 aa;go_wp2_with fail;refine zA (WJ ko wr) ?_;rw[aa.out];have OE:=Mg (attrs:=attrs) ar b9;have CE:Hid (fA 61 #[.slice (some (dA b o)) n c,aA i] wr fun e w'=>e= .returned (aA ((i+(pB (PW.mk 1 tag key z0 attrs kids)).length-1:Nat):Int))/\wr=w'):=Zh (by
        have ac:i<l.length:=(uA KL.out);exact Ch l _ n c i (pB (PW.mk 1 tag key z0 attrs kids)) wr ((KH.below R Zl).more R.size) KL hl (fun _=>by rw[a5.out _ _ y]) (uA ah.out) (uA af.out) (fun x h h'=>by
         have h3:x<(pB (PW.mk 1 tag key z0 attrs kids)++C).length:=(by rw[List.length_append];omega);have h4:=ZM L (i:=x) (by rw[u.out];exact h) h3;have h5:l[i+x]=l[(cB (q.take j)).length+x]'(by rw[u.out];exact h):=(by congr 1;rw[u.out]);rw[h5,h4,List.getElem_append_left h']) OE.1 OE.2)
       obtain⟨U,V,g2⟩:=G wr R;(try simp only at U V g2);have BL:Hid ((pB (PW.mk 1 tag key z0 attrs kids)).length=attrs.length+(cB kids).length+2):=Zh (by rw[y];simp only[List.length_cons,List.length_append,List.length_map,List.length_nil];omega);have H:Hid (i+(pB (PW.mk 1 tag key z0 attrs kids)).length-1+1=(cB (q.take (j+1))).length):=Zh (by rw[a7.out,List.length_append,u.out];have:=af.out;omega);obtain⟨nk0,av⟩:=qA ((cB kids).length);have bo:Hid (∀w9,eA w w9->kX.pA w9 w9.heap.size (some ⟨b,o+k*3,none⟩) (cB kids)):=Zh (fun w9 h9=>by
        have h1:l=(cB (q.take j)++(⟨1,tag,key⟩:: attrs.map dC))++(cB kids++(⟨2,z0,z0⟩:: C)):=(by rw[L.out,y];simp only[List.append_assoc,List.cons_append,List.nil_append]);have h2:(cB (q.take j)++(⟨1,tag,key⟩:: attrs.map dC)).length=k:=(by simp only[List.length_append,List.length_cons,List.length_map,u.out];have:=KM.out;omega);have h3:cB kids=(l.drop k).take (cB kids).length:=(by rw[h1,<-h2,List.drop_left,List.take_left]);rw[h3];have:=(KH.on h9).drop k;exact this.take _)
       have bk:k+nk0<n:=(by have:=ah.out;have:=BL.out;have:=KM.out;omega);have CK:Hid (∀w9,eA w w9->fA 30 #[.slice (some ⟨b,o+k*3,none⟩) nk0 (c-k)] w9 (Wv kQ w9 kids)):=Zh (fun w9 h9=>HI nk0 cA kids (cB kids) _ nk0 (c-k) w9 b9 rfl av Zl (bo w9 h9) cA (uA KC.out) cA);have a4:i+(pB (PW.mk 1 tag key z0 attrs kids)).length-1=k+nk0:=(by have:=BL.out;have:=KM.out;omega);rw[a4] at CE H;clear a4 OE av;generalize a4:k+nk0=la at CE H bk;have bv:=Zh a4;have au:i<=la:=(uA KM.out);have i1:(k:Int)<=(la:Int):=cA;have i2:(la:Int)<=(c:Int):=cA;have i3:((la:Int)-(k:Int))=(nk0:Int):=cA;have i4:((c:Int)-(k:Int))=((c-k:Nat):Int):=cA;have i5:la-k=nk0:=cA;clear a4;go_wp2_with fail;refine zA CE ?_;go_wp2_with fail;refine(CK wr R).mono ?_;rintro e w5 ⟨Ak,nk,ck,ks,rfl,bl,ad,aw,b5⟩;have KD:=p.kids (Ak:=Ak) (nk:=nk) (ck:=ck) b5;have ax:=FA p.tq;have aq:=(b5.block _ ax).trans p.tq;have c5:w5.cell? ⟨W.heap.size,5,none⟩=some (vA):=TQ.c5 aq;have f5:w5.frozen? ⟨W.heap.size,5,none⟩=false:=TQ.fr aq 5;have B6:=Zh (T.trans (KD.2.2.mono O));have O6:=Zh (HO.below KD.2.2 Zl);have T6:Hid (∀t∈us,qB kQ (w5.setCell ⟨W.heap.size,5,none⟩ (.slice Ak nk ck)) (fun b=>w.heap.size<=b/\(Value.slice A' n' c').ownBlock≠some b) t):=Zh (fun t ht=>(HT t ht).qC KD.2.2);have ab:=Zh KD.1;have a0:Hid (qB kQ (w5.setCell ⟨W.heap.size,5,none⟩ (.slice Ak nk ck)) (fun b=>w.heap.size<=b/\(Value.slice A' n' c').ownBlock≠some b) (.mk 1 tag key zB ⟨A,X,Y⟩ attrs ⟨Ak,nk,ck⟩ ks)):=Zh (by
        obtain⟨s,hv,ha⟩:=nB.own KD.2.1;have e:s=⟨A,X,Y⟩:=by
         obtain⟨As,ns,cs⟩:=s;unfold Sv.val at hv;injection hv with P Q e3;subst P;subst Q;subst e3;rfl
        subst e;refine qB.mk (sk:=⟨Ak,nk,ck⟩) ha ((Vk ad ax 5).dE (Nat.zero_le _)) (fun b hb=>⟨by have:=(ad.lt hb).1;omega,fun e=>by have:=(ad.lt hb).1;have:=(HO.lt e).2;omega⟩) (fun t ht=>?_);exact(Xk (aw t ht) (fun b hq=>by have:=hq.1;omega) ⟨_,aq⟩ 5).mono fun b _ hq=>⟨by have:=hq.1;omega,fun e=>by have:=hq.1;have:=(HO.lt e).2;omega⟩)
       have bp:=Zh bl;have G6:=Zh (fun(_:True)=>G _ B6);clear ad aw b5 KD bl aq;go_upto_region 22 with fail;generalize w5.setCell ⟨W.heap.size,5,none⟩ (.slice Ak nk ck)=w6 at B6 O6 T6 ab a0|-;clear G6 c5 f5;have t0:=ab.c0;have t1:=ab.c1;have t2:=ab.c2;have t3:=ab.c3;have t4:=ab.c4;have t5:=ab.c5;have a6:=B6.size;go_wp2_with (at_builtin;refine kQ.iC rfl _ _ rfl (v:=.slice A' n' c') (l:=us) (m:=[.mk 1 tag key zB ⟨A,X,Y⟩ attrs ⟨Ak,nk,ck⟩ ks]) (B:=w.heap.size) rfl (O6.alloc _) rfl rfl RB (Kind.pA.lit (heap_alloc_new _ _) rfl) (by have:=ae.out;simp;omega) AA ?_;intro v' w4 d f z);obtain⟨A4,n4,c4,rfl,P,Q,e3,e4,e5⟩:=d.slice;have I:=FK (K:=kQ) nA O6 T6 a0 f z;have B4:Hid (eA w w4):=Zh (B6.trans (I.2.AB (fun i _ hi=>(O6.lt hi).1) a6));have J:Hid (zH w q (.slice A4 n4 c4) (aA ((la+1:Nat):Int)) w4):=Zh ⟨j+1,A4,n4,c4,_,by omega,by rw[H.out],rfl,Zh (by rw[DK,HU.out,a8.out,<-bp.out];congr 1),Zh d,Zh I.1,B4⟩;clear I d f z P Q e3 e4 e5;go_wp2_with fail;go_roundw
       case rel=>exact J
       case measure=>(simp[intOf];omega)
      ·exfalso;have:=ah.out;have:=af.out;have:=KM.out;omega
  ·obtain rfl:j=q.length:=cA
   have HE:Hid ((cB (q.take q.length)).length=n):=Zh (by rw[List.take_length,<-bb.out,KL.out]);rw[HE.out];go_wp2_with fail;go_ret;exact⟨A',n',c',us,rfl,by rw[HU.out,List.take_length],HO,HT,T⟩
theorem Eh(N:Nat):PV N:=by
 induction N using Nat.strongRecOn with
 |ind N ih=>exact Yk N ih
end P14
namespace P5
open Go.RowKit Kd P4
variable{B p:Nat}{x:Dx}
def zV(d:D)(i:Int)(w:World)(e:Ending)(w':World):Prop:=∃(nd:Nd) (A:jA) (n c:Nat) (A2:jA) (n2 c2:Nat),e= .returned (.tuple #[.agg (XA nd A n c A2 n2 c2),.bool (lA d.l i)])/\
 (lA d.l i=true->find d.l i=some nd)/\(lA d.l i=false->nd=⟨0,0,⟨#[]⟩,⟨#[]⟩,⟨#[]⟩,[],[],0⟩)/\nd.kids=xA d.l i/\nB w' ⟨A,n,c⟩ nd.attrs/\kI.Own w' w.heap.size (.slice A2 n2 c2) nd.kids/\eA w w'
theorem pV(i:Int)(w:World)(hw:WF x.d)(h:Dc w B p x):fA 19 #[iA p,aA i] w (zV x.d i w):=by
 cases hh:lA x.l i with
 |false=>
  have a:lA x.d.l i=false:=hh;refine(Y7 i w hh h).mono ?_;rintro e w' ⟨rfl,b⟩;refine⟨⟨0,0,⟨#[]⟩,⟨#[]⟩,⟨#[]⟩,[],[],0⟩,none,0,0,none,0,0,by rw[a],(fun e=>by rw[a] at e;cases e),fun _=>rfl,?_,nB.yI w',Kind.Own.nil kI w' _,b⟩;unfold xA;cases hf:find x.d.l i with
  |none=>rfl
  |some z=>rw[LH hf] at a;cases a
 |true=>
  have a:lA x.d.l i=true:=hh;obtain⟨k,f,g,_⟩:=h.place hh;obtain⟨j,l,_⟩:=tQ h hw f;have d:find x.d.l i=some x.rs[k].nd:=by
   have m:x.rs[k].nd∈x.l:=List.mem_map.2 ⟨x.rs[k],List.getElem_mem f,rfl⟩;have:=h.VC.find m;rw[g] at this;exact this
  refine(XP i (k:=k) (nd:=x.rs[k].nd) w f g rfl j l h).mono ?_;rintro e w' ⟨A,n,c,o,q,r,rfl,s,t,b⟩;exact⟨_,A,n,c,o,q,r,by rw[a],fun _=>d,(fun e=>by rw[a] at e;cases e),(yJ d).symm,s,t,b⟩
end P5
namespace P5
open Go.RowKit Go.ChangeShapes Go.WideShapes Go.Deep Kd P4
theorem Ig{P:Program}{α:Type}(K:Kind P α){H:Type}{enc:TypeId×Value->H}{w:World}{cs:List Value}{x:DataW H×List MemPlace}{fuel:Nat}(inh:α)(Wf:α->Prop)
 (hce:P.cellsOf K.e=K.size) (hel:∀fuel cs x,DataW.trod enc P w 0 (fun _=>true) true fuel K.e cs=some x->cs.length=K.size->∃a,cs=K.cs a/\Wf a)
 (hf:DataW.trod enc P w 0 (fun _=>true) true fuel K.t cs=some x):
 ∃A n c l,cs=[.slice A n c]/\l.length=n/\n<=c/\c<=maxLen/\(A=none->c=0)/\(∀a∈l,Wf a)/\K.pA w w.heap.size A l:=by
 rcases open_slice K.ht hf with⟨hcs,_⟩|⟨ad,len,cap,m,n,D,Pl,hcs,hb,hl,hm,hmm,_,hi⟩
 ·exact⟨none,0,0,[],hcs,rfl,Zl,by unfold maxLen;omega,fun _=>rfl,fun _ h=>absurd h DA,Kind.pA.nil _ _ _⟩
 ·have C:m=cap:=(by simpa using hmm);subst C;have s:∀i,i<len->∃x:α,Wf x/\∀j,j<K.size->w.cell? (ad.add (i*K.size+j))=(K.cs x)[j]?:=by
   intro i L;obtain⟨M,I,N⟩:=hi i cA;rw[hce] at I;obtain⟨_,t,d⟩:=World.cells?_some I;obtain⟨x,rfl,O⟩:=hel _ _ _ N t;refine⟨x,O,fun j B=>?_⟩;have:=d j B;rwa[add_add] at this
  have J:Inhabited α:=⟨inh⟩;obtain⟨f,q⟩:=choose_lt s;refine⟨_,_,_,(List.range len).map f,hcs,by simp,hl,hm,fun e=>(by cases e),fun x hx=>?_,fun j u B=>?_⟩
  ·obtain⟨i,E,rfl⟩:=List.mem_map.1 hx;exact(q i (List.mem_range.1 E)).1
  ·have F:j<len*K.size:=by
    have:=(List.getElem?_eq_some_iff.1 B).1;rw[Kind.fH] at this;simpa using this
   have g:=K.wF;have G:K.size*(j/K.size)+j % K.size=j:=Nat.div_add_mod j K.size;have p:j % K.size<K.size:=Nat.mod_lt _ g;have k:j/K.size<len:=(by rw[Nat.div_lt_iff_lt_mul g];exact F);have v:j/K.size*K.size+j % K.size=j:=(by rw[Nat.mul_comm];exact G);have Q:j/K.size<((List.range len).map f).length:=(by simpa using k);have d:=(q _ k).2 _ p;rw[v] at d;have y:=K.aK _ _ Q _ p;rw[v,B] at y;have r:w.cell? (ad.add j)=some u:=(by rw[d,y];simp);have z:ad.spot=Option.none:=by
    have z0:=(q 0 (Nat.lt_of_le_of_lt (Nat.zero_le _) k)).2 0 g;rw[List.getElem?_eq_getElem (by rw[K.len];exact g)] at z0;exact WS (a:=ad) (by simpa[Addr.add] using z0)
   obtain⟨b,o,R⟩:=ad;simp only at z;subst z;rw[add_plain] at r;exact⟨b,o,rfl,block_lt_of_cell r,r⟩
theorem Qa:prog.cellsOf 9=1:=by kernel_rfl
theorem iq:prog.cellsOf 4=1:=by kernel_rfl
theorem An:prog.cellsOf 50=1:=by kernel_rfl
theorem Bn:prog.cellsOf 119=3:=by kernel_rfl
theorem Cn{H:Type}{enc:TypeId×Value->H}{w:World}{fuel:Nat}{cs:List Value}{x:DataW H×List MemPlace}(hx:DataW.trod enc prog w 0 (fun _=>true) true fuel 119 cs=some x)(hlen:cs.length=3):
 ∃a:P3.At,cs=kA.cs a/\(a.nm.size<=maxLen/\a.vl.size<=maxLen):=by
 obtain⟨f,k,v,o,_,b,g⟩:=DataW.trod_struct underlying119 hx
 match cs,hlen with
 |[v0,v1,v2],_=>
  have i:=g 0 _ rfl;have j:=g 1 _ rfl;have l:=g 2 _ rfl;simp[Qa,iq] at i j l;have p:f[0]? = some (f[0]'(by rw[b];decide)):=List.getElem?_eq_getElem _;have q:f[1]? = some (f[1]'(by rw[b];decide)):=List.getElem?_eq_getElem _;have r:f[2]? = some (f[2]'(by rw[b];decide)):=List.getElem?_eq_getElem _;rw[p] at i;rw[q] at j;rw[r] at l;obtain⟨s,c,_,m⟩:=DataW.trod_string underlying9 i;obtain⟨t,d,_,n⟩:=DataW.trod_string underlying9 j;obtain⟨u,e,_⟩:=DataW.trod_bool underlying4 l;injection c with c _;injection d with d _;injection e with e _;subst c;subst d;subst e;exact⟨⟨s,t,u⟩,rfl,m,n⟩
end P5
namespace P8
open Go.RowKit Go.ChangeShapes Go.WideShapes Go.Deep Kd P4 P5
theorem Jg{P:Program}{α:Type}(K:Kind P α){H:Type}{enc:TypeId×Value->H}{w:World}{cs:List Value}{x:DataW H×List MemPlace}{fuel:Nat}(inh:α)(Wf:α->Prop)
 (hce:P.cellsOf K.e=K.size) (hel:∀f,f<fuel->∀cs x,DataW.trod enc P w 0 (fun _=>true) true f K.e cs=some x->cs.length=K.size->∃a,cs=K.cs a/\Wf a)
 (hf:DataW.trod enc P w 0 (fun _=>true) true fuel K.t cs=some x):
 ∃A n c l,cs=[.slice A n c]/\l.length=n/\n<=c/\c<=maxLen/\(A=none->c=0)/\(∀a∈l,Wf a)/\K.pA w w.heap.size A l:=by
 rcases DataW.trod_slice K.ht hf with⟨rfl,_⟩|⟨ad,len,cap,elems,rest,n,hfu,rfl,rfl,_,hl,hm,hle,hi,_,_⟩
 ·exact⟨none,0,0,[],rfl,rfl,Zl,by unfold maxLen;omega,fun _=>rfl,fun _ h=>absurd h DA,Kind.pA.nil _ _ _⟩
 ·have r:∀i,i<len->∃y:α,Wf y/\∀j,j<K.size->w.cell? (ad.add (i*K.size+j))=(K.cs y)[j]?:=by
   intro i C;have e:=hi i C;rw[List.getElem?_eq_getElem cA,hce] at e;obtain⟨I,J,L⟩:=Option.bind_eq_some_iff.1 e;obtain⟨_,s,d⟩:=World.cells?_some J;obtain⟨y,rfl,M⟩:=hel n cA _ _ L s;refine⟨y,M,fun j B=>?_⟩;have:=d j B;rwa[add_add] at this
  have G:Inhabited α:=⟨inh⟩;obtain⟨f,p⟩:=choose_lt r;refine⟨_,_,_,(List.range len).map f,rfl,by simp,hl,hm,fun e=>(by cases e),fun y N=>?_,fun j u B=>?_⟩
  ·obtain⟨i,D,rfl⟩:=List.mem_map.1 N;exact(p i (List.mem_range.1 D)).1
  ·have E:j<len*K.size:=by
    have:=(List.getElem?_eq_some_iff.1 B).1;rw[Kind.fH] at this;simpa using this
   have g:=K.wF;have F:K.size*(j/K.size)+j % K.size=j:=Nat.div_add_mod j K.size;have m:j % K.size<K.size:=Nat.mod_lt _ g;have k:j/K.size<len:=(by rw[Nat.div_lt_iff_lt_mul g];exact E);have t:j/K.size*K.size+j % K.size=j:=(by rw[Nat.mul_comm];exact F);have O:j/K.size<((List.range len).map f).length:=(by simpa using k);have d:=(p _ k).2 _ m;rw[t] at d;have v:=K.aK _ _ O _ m;rw[t,B] at v;have q:w.cell? (ad.add j)=some u:=(by rw[d,v];simp);have z:ad.spot=Option.none:=by
    have z0:=(p 0 (Nat.lt_of_le_of_lt (Nat.zero_le _) k)).2 0 g;rw[List.getElem?_eq_getElem (by rw[K.len];exact g)] at z0;exact WS (a:=ad) (by simpa[Addr.add] using z0)
   obtain⟨b,o,Q⟩:=ad;simp only at z;subst z;rw[add_plain] at q;exact⟨b,o,rfl,block_lt_of_cell q,q⟩
theorem Ra:prog.cellsOf 59=5:=by kernel_rfl
theorem Dn:prog.cellsOf 22=1:=by kernel_rfl
theorem Nc{H:Type}{enc:TypeId×Value->H}{w:World}:∀(fuel:Nat) (cs:List Value) (x:DataW H×List MemPlace),DataW.trod enc prog w 0 (fun _=>true) true fuel 59 cs=some x->cs.length=5->
 ∃a:TV,cs=kT.cs a/\(vC w w.heap.size a/\JJ a):=by
 intro fuel
 induction fuel using Nat.strongRecOn with
 |ind fuel ih=>
  intro cs x hx o;obtain⟨d,k,q,E,_,b,p⟩:=DataW.trod_struct underlying59 hx
  match cs,o with
  |[v0,v1,v2,v3,v4],_=>
   have r:=p 0 _ rfl;have s:=p 1 _ rfl;have t:=p 2 _ rfl;have u:=p 3 _ rfl;have v:=p 4 _ rfl;simp[Qa,An,Dn] at r s t u v;have F:d[0]? = some (d[0]'(by rw[b];decide)):=List.getElem?_eq_getElem _;have G:d[1]? = some (d[1]'(by rw[b];decide)):=List.getElem?_eq_getElem _;have I:d[2]? = some (d[2]'(by rw[b];decide)):=List.getElem?_eq_getElem _;have J:d[3]? = some (d[3]'(by rw[b];decide)):=List.getElem?_eq_getElem _;have K:d[4]? = some (d[4]'(by rw[b];decide)):=List.getElem?_eq_getElem _;rw[F] at r;rw[G] at s;rw[I] at t;rw[J] at u;rw[K] at v;obtain⟨L,e,_,y⟩:=DataW.trod_string underlying9 r;obtain⟨M,g,_,z⟩:=DataW.trod_string underlying9 s;obtain⟨N,i,_,B⟩:=DataW.trod_string underlying9 t;obtain⟨A,n,c,l,j,O,P,Q,R,_,S⟩:=Ig kA (⟨⟨#[]⟩,⟨#[]⟩,false⟩:P3.At) (fun a=>a.nm.size<=maxLen/\a.vl.size<=maxLen) Bn (fun _ _ _ h C=>Cn h C) u;obtain⟨T,U,V,W,m,X,Y,Z,d4,D,d6⟩:=Jg kT (.mk ⟨#[]⟩ ⟨#[]⟩ ⟨#[]⟩ ⟨none,0,0⟩ [] ⟨none,0,0⟩ []) (fun a=>vC w w.heap.size a/\JJ a) Ra (fun f hf cs x h C=>ih f cA cs x h C) v;injection e with e _;injection g with g _;injection i with i _;injection j with j _;injection m with m _;subst e;subst g;subst i;subst j;subst m;exact⟨.mk L M N ⟨A,n,c⟩ l ⟨T,U,V⟩ W,rfl,⟨O,P,R,S,X,Y,d4,d6,fun k q=>(D k q).1⟩,⟨⟨y,z,B,Q,Z⟩,fun k q=>(D k q).2⟩⟩
theorem Tt{H:Type}{enc:TypeId×Value->H}{w:World}{v:Value}{d:DataW H}{p:List MemPlace}{base:Nat}
 (hv:Value.okWide prog w .any base 22 v) (h:DataW.Trod enc prog w 0 (fun _=>true) true 22 v d p):
 ∃A n c l,v= .slice A n c/\l.length=n/\n<=c/\c<=maxLen/\(∀a∈l,vC w w.heap.size a/\JJ a)/\kT.pA w w.heap.size A l:=
 kT.open_ (.mk ⟨#[]⟩ ⟨#[]⟩ ⟨#[]⟩ ⟨none,0,0⟩ [] ⟨none,0,0⟩ []) (fun a=>vC w w.heap.size a/\JJ a) Ra (fun b e x h f=>Nc b e x h f) hv h
end P8
end Go.Proofs.YtngnkmeaaneklaaGreat
