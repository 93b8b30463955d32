/- A part of the proof. No condition. -/
import Derived.Deep.DrawnRows
import Derived.Deep.DeepCutAuto
import Derived.Deep.CutBlock
import Derived.Deep.RegionHeld3
import Derived.Test.YtimfajmknmlajaaGreatDoorM1
import Derived.Test.YtimfajmknmlajaaGreatDoorM4
import Derived.Test.YtimfajmknmlajaaGreatDoorM6
import Derived.Test.YtimfajmknmlajaaGreatDoorM7
import Derived.Test.YtimfajmknmlajaaGreatDoorM8
import Derived.Test.YtimfajmknmlajaaGreatDoorM9
import Derived.Test.YtimfajmknmlajaaGreatDoorM10
set_option linter.unusedVariables false
set_option linter.unusedSimpArgs false
set_option maxRecDepth 100000
set_option maxHeartbeats 40000000
namespace Go.Proofs.YtimfajmknmlajaaGreatDoor
open Go.Proofs.Tryz
namespace P5
open Go.RowKit Kd P4
variable{B q:Nat}
variable{B q:Nat}
variable{B p q:Nat}{x x':Dx}
section
variable{w w':World}
variable{g:Nat}
theorem VC.YI{r:Rc}{A:vA}{n c:Nat}(h:VC w g r A n c)(hx:Dc w B p x)(k:aC w B p x x' w'):VC w' g r A n c:=(k.but.block g h.lt (hx.other h pA pA pA pA pA)).trans h
end
theorem Xm(l:List Nd)(i p b:Int):0<=fE l i p b/\fE l i p b<=13:=by
 unfold fE;split
 ·omega
 split
 ·omega
 split
 ·omega
 split
 ·omega
 split<;>omega
theorem qh(d:D)(r:Rc):0<=(YA d r).1/\(YA d r).1<=13:=by
 unfold YA;split
 ·unfold rE;split
  ·exact⟨by simp,by simp⟩
  ·split<;>exact⟨by simp,by simp⟩
 split
 ·unfold YD;have:=Xm d.l r.id r.par r.ZA;split<;>simp<;>omega
 split
 ·unfold uF;split
  ·exact⟨by simp,by simp⟩
  ·split<;>exact⟨by simp,by simp⟩
 split
 ·unfold XD;split
  ·exact⟨by simp,by simp⟩
  split
  ·exact⟨by simp,by simp⟩
  split<;>exact⟨by simp,by simp⟩
 split
 ·unfold nF;split
  ·exact⟨by simp,by simp⟩
  split
  ·exact⟨by simp,by simp⟩
  split<;>exact⟨by simp,by simp⟩
 exact⟨by simp,by simp⟩
theorem rr{c':Int}(r:Rc)(A:vA)(n c:Nat)(w:World)(hc:(YA x.d r).1=c')(hwf:WF x.d)(hn:x.n<=100000)(ha:cL w A n c r)(h:Dc w B p x):jA 163 #[lA p,.agg (lF r A n c)] w (Made w B p x (QA c') (YA x.d r).2):=by subst hc;exact nj r A n c w hwf hn ha h
end P5
namespace P7
open Go.RowKit Kd P4 P5
theorem Xv:(prog.info? 87).map (fun i=>(i.zero,i.size,i.bytes))=some (some (.agg #[aA 0,aA 0,aA 0,aA 0,oA,oA,oA,tA]),8,104):=by kernel_rfl
structure RR where
 r:Rc
 va:Sv
def RR.cells(a:RR):List Value:=[aA a.r.op,aA a.r.id,aA a.r.par,aA a.r.ZA,bA a.r.tag,bA a.r.txt,bA a.r.key,.slice a.va.A a.va.n a.va.c]
def kR:Kind prog RR where
 t:=40
 e:=87
 size:=8
 bytes:=104
 z:=.agg #[aA 0,aA 0,aA 0,aA 0,oA,oA,oA,tA]
 cs:=RR.cells
 ht:=underlying40
 info:=LH Xv
 zH:=rfl
 zG:=by decide
 BH:=by decide
 len:=fun _=>rfl
 one:=fun a u hu=>by simp[RR.cells] at hu;rcases hu with rfl|rfl|rfl|rfl|rfl|rfl|rfl|rfl<;>rfl
theorem jX{w:World}{B:Nat}{A:vA}{l:List RR}(h:kR.AA w B A l){k:Nat}(hk:k<l.length):
 ∃b o,A=some (cA b o)/\b<B/\w.cell? ⟨b,o+k*8,none⟩=some (aA l[k].r.op)/\w.cell? ⟨b,o+k*8+1,none⟩=some (aA l[k].r.id)/\
  w.cell? ⟨b,o+k*8+2,none⟩=some (aA l[k].r.par)/\w.cell? ⟨b,o+k*8+3,none⟩=some (aA l[k].r.ZA)/\w.cell? ⟨b,o+k*8+4,none⟩=some (bA l[k].r.tag)/\
  w.cell? ⟨b,o+k*8+5,none⟩=some (bA l[k].r.txt)/\w.cell? ⟨b,o+k*8+6,none⟩=some (bA l[k].r.key)/\w.cell? ⟨b,o+k*8+7,none⟩=some (.slice l[k].va.A l[k].va.n l[k].va.c):=by
 obtain⟨b,o,rfl,c,a⟩:=h.at hk;exact⟨b,o,rfl,c,a 0 _ rfl,a 1 _ rfl,a 2 _ rfl,a 3 _ rfl,a 4 _ rfl,a 5 _ rfl,a 6 _ rfl,a 7 _ rfl⟩
theorem cO{B:Nat}{v:Value}{w:World}{l:List RR}(h:kR.Own w B v l):∃A n c,v= .slice A n c/\l.length=n/\n<=c/\c<=maxLen/\(A=none->c=0/\n=0)/\kR.AA w w.heap.size A l:=by
 obtain⟨A,n,c,a,b,d,f,g,i⟩:=h.slice;exact⟨A,n,c,a,b,d,f,fun e=>by have:=g e;omega,i⟩
theorem Te(l:List RR)(A:vA)(n c:Nat)(w:World)(hn:l.length=n)(hn2:n<=1000000)(hz:A=none->c=0/\n=0)(H:kR.AA w w.heap.size A l):
 jA 53 #[.slice A n c] w (ZR kR w l):=by
 cases A with
 |none=>
  obtain⟨rfl,rfl⟩:=hz rfl;obtain rfl:l=[]:=List.length_eq_zero_iff.1 hn;clear H hn hz;have f:=fun w'=>Lib.run_eql_slice_nil (P:=prog) w' 40 87 Option.none 0 0 0 0 underlying40
  go_enter func53,ntmps53;go_wp2;go_ret;exact⟨none,0,0,rfl,Kind.Own.nil _ _ _,Ze⟩
 |some a=>
  have g:=Zh hn;have i:=Zh H;clear H hn hz;have f:=fun w'=>Lib.run_eql_slice_nil (P:=prog) w' 40 87 (some a) n c 0 0 underlying40
  go_enter func53,ntmps53;go_wp2_with (at_builtin;refine kR.QF rfl _ _ rfl (v:=.slice (some ⟨w.heap.size,0,Option.none⟩) 0 0) (l:=[]) (m:=l) (B:=w.heap.size) rfl (Kind.Own.made kR w _ Zl) rfl g KF (i.on (Zb _ _)) jB FA ?_;intro s t b d j);go_ret;obtain⟨o,p,q,rfl,_⟩:=b.slice;exact⟨o,p,q,rfl,b,(Zb _ _).grown d FA (fun k r=>by simp[Value.ownBlock] at r;omega)⟩
structure bK(w:World)(a:RR):Prop where
 mC:ZB w a.va a.r.attrs
 nD:a.va.n<=1000000
structure Lg(w:World)(B g p:Nat)(vd:Value)(rs:List RR):Prop where
 zA:w.heap[g]? = some (.cells #[lA p,vd] 103 (0,0))
 base:B<=g
 own:kR.Own w B vd rs
 ZP:∀a∈rs,bK w a
def eG(g:Nat)(vd:Value)(k:Nat):Prop:=k=g\/vd.ownBlock=some k
section
variable{w w':World}{B g p q:Nat}{vd:Value}{rs:List RR}{x x':Dx}
theorem Lg.lt(h:Lg w B g p vd rs){k:Nat}(hk:eG g vd k):k<w.heap.size:=by
 rcases hk with rfl|hk
 ·exact JA h.zA
 ·exact(h.own.lt hk).2
theorem Lg.ge(h:Lg w B g p vd rs){k:Nat}(hk:eG g vd k):B<=k:=by
 rcases hk with rfl|hk
 ·exact h.base
 ·exact(h.own.lt hk).1
theorem Lg.ty(h:Lg w B g p vd rs){k:Nat}(hk:eG g vd k):∃cur t,w.heap[k]? = some (.cells cur t (0,0))/\(t=103\/t=87):=by
 rcases hk with rfl|hk
 ·exact⟨_,_,h.zA,.inl rfl⟩
 ·obtain⟨c,a⟩:=h.own.ty hk;exact⟨_,_,a,.inr rfl⟩
theorem Lg.QE(h:Lg w B g p vd rs):vC w (eG g vd):=by
 intro k d j f i;obtain⟨c,t,a,b⟩:=h.ty f;rw[i] at a;injection a with a;injection a with _ e;subst e;rcases b with b|b<;>exact absurd b pA
theorem Lg.but{S:Nat->Prop}(h:Lg w B g p vd rs)(hb:iA S w w')(hS:∀k,eG g vd k->¬S k)(hA:vC w S):Lg w' B g p vd rs:=
 ⟨(hb.block g (JA h.zA) (hS g (.inl rfl))).trans h.zA,h.base,h.own.but hb (fun k c=>hS k (.inr c)),fun a b=>⟨(h.ZP a b).mC.but hb hA,(h.ZP a b).nD⟩⟩
theorem Lg.below(h:Lg w B g p vd rs)(hb:fA w w'):Lg w' B g p vd rs:=h.but (iA.oB hb (fun _=>False)) (fun _ _ h=>h) (vC.none w)
theorem Lg.drewN(h:Lg w B g p vd rs)(n:Nat):Lg (w.drewN n) B g p vd rs:=h.below (OC Ze n)
theorem Lg.c0(h:Lg w B g p vd rs):w.cell? (cA g 0)=some (lA p):=cell_of_row w g 0 _ _ (0,0) h.zA
theorem Lg.c1(h:Lg w B g p vd rs):w.cell? (cA g 1)=some vd:=cell_of_row w g 1 _ _ (0,0) h.zA
theorem Lg.frozen(h:Lg w B g p vd rs)(i:Nat):w.frozen? (cA g i)=false:=by
 have:=h.zA;simp[World.frozen?,this]
theorem Lg.Sd{B' p':Nat}(h:Lg w B g p vd rs)(hx:Dc w B' p' x){k:Nat}(hk:eG g vd k):¬fC p' x k:=by
 obtain⟨c,t,a,b⟩:=h.ty hk;rcases b with rfl|rfl<;>exact hx.other a pA pA pA pA pA
theorem Lg.YI{B' p':Nat}(h:Lg w B g p vd rs)(hx:Dc w B' p' x)(k:aC w B' p' x x' w'):Lg w' B g p vd rs:=h.but k.but (fun _ a=>h.Sd hx a) hx.QE
structure wB(w:World)(B g p:Nat)(x:Dx)(vd:Value)(x':Dx)(vd':Value)(rs':List RR)(w':World):Prop where
 dc:Dc w' B p x'
 lg:Lg w' B g p vd' rs'
 but:iA (fun k=>fC p x k\/eG g vd k) w w'
 ft:∀k,fC p x' k->fC p x k\/w.heap.size<=k
 lf:∀k,vd'.ownBlock=some k->vd.ownBlock=some k\/w.heap.size<=k
variable{vd':Value}{rs':List RR}
theorem EV{S T:Nat->Prop}(h:vC w S)(k:vC w T):vC w (fun i=>S i\/T i):=fun i c f a=>a.elim (h i c f) (k i c f)
theorem wB.apart{v:Value}(k:wB w B g p x vd x' vd' rs' w'){C:Nat}{m:List RR}(ho:kR.Own w C v m)(ha:dF v vd):dF v vd':=fun i a e=>by
 rcases k.lf i e with e|e
 ·exact ha i a e
 ·have:=(ho.lt a).2;omega
theorem wB.own{v:Value}(h:Dc w B p x)(l:Lg w B g p vd rs)(k:wB w B g p x vd x' vd' rs' w'){C:Nat}{m:List RR}(ho:kR.Own w C v m)(ha:dF v vd):kR.Own w' C v m:=
 ho.but k.but fun i a e=>by
  obtain⟨d,b⟩:=ho.ty a;rcases e with e|e|e
  ·exact h.other b pA pA pA pA pA e
  ·subst e;exact WA b l.zA pA rfl
  ·exact ha i a e
end
end P7
namespace P19
open Go.RowKit Kd P4 P5 P7
attribute [local go_sem ↓] Go.wp_at_zero Go.wp_at_succ
section
variable{w w' w2:World}{B g q:Nat}{v v' v2:Value}{rs rs' rs2:List RR}
end
variable{B g q:Nat}{v:Value}{rs:List RR}
variable{w w':World}{B g q C:Nat}{v v' u:Value}{rs rs':List RR}{l:List Int}
theorem vG{P:Program}{α:Type}{K:Kind P α}{w:World}{B n c:Nat}{A:vA}{l:List α}(h:K.Own w B (.slice A n c) l):l.length=n/\n<=c/\c<=maxLen/\(A=none->c=0)/\K.AA w w.heap.size A l:=by
 obtain⟨i,j,k,a,b,d,e,f,g⟩:=h.slice;injection a with h1 h2 h3;subst h1;subst h2;subst h3;exact⟨b,d,e,f,g⟩
end P19
namespace P19
open Go.RowKit Kd P4 P5 P7 P14
variable{w w':World}{B g q C:Nat}{v v':Value}{rs rs':List RR}{A:vA}{n c:Nat}{ids:List Int}
end P19
namespace P19
open Go.RowKit Kd P4 P5 P7 P14 P16
theorem Lu{l:List P3.At}(h:P3.kC l=true):P3.Wf l/\l.length<=8:=by
 obtain⟨b,c,_⟩:=P3.AI.1 h;refine⟨fun a d=>?_,b⟩;obtain⟨e,f⟩:=c a d;have g:=P12.aU e;have i:=P12.MJ f;simp at g i;exact⟨by unfold maxLen;omega,by unfold maxLen;omega⟩
section
variable{w wx w':World}{B g q bx:Nat}{v:Value}{rs:List RR}{t:WV}{lv:Value}{left:List Int}{s:Sg}
end
def jF(f:Nat):Rec:=fun s i ks w=>uB f s i ks 0 w
theorem lI(ts:List WV):(yA ts).length=ts.length:=by rw[nC];simp
section
variable{f:Nat}{par beh:Int}{ids:List Int}{v:Value}{rs:List RR}{ts:List WV}{i:Nat}{w:World}{C B g q:Nat}{A A':vA}{n c n' c':Nat}
theorem sS(hi:i<ts.length):(yA ts)[i]'(by rw[lI];exact hi)=er ts[i]:=by simp[nC]
theorem yb:∀{l:List PW} {i:Nat} (hi:i<l.length),pC (l.take i)+ZF l[i]<=pC l
 |[],i,hi=>by simp at hi
 |x:: r,0,_=>by rw[List.take_zero,pC,pC,List.getElem_cons_zero];omega
 |x:: r,i+1,hi=>by
  have:=yb (l:=r) (i:=i) (by simpa using hi);rw[List.take_succ_cons,pC,pC,List.getElem_cons_succ];omega
theorem yw{a e:Int}{b c d:Nat}(h1:a<=e+(b:Nat))(h2:b+c<=d)(h3:e+(d:Nat)<=90000):a+(c:Nat)<=90000:=by omega
theorem qs{a b c d e:Nat}(h1:a<=e+2000*b)(h2:b+c<=d)(h3:e+2000*(d+1)<=800000):a+2000*c+2000<=800000:=by omega
theorem ss{a d e:Nat}(h1:a<=e+2000*d)(h3:e+2000*(d+1)<=800000):a<=800000:=by omega
end
theorem Dh(l:List Int)(i:Int)(s:Sg):cC (l++[i]) s=LA (cC l s) (ZC i):=by
 unfold cC;rw[List.foldl_append];rfl
theorem tN:∀(l:List Int) {s:Sg},WF s.1->WF (cC l s).1
 |[],_,h=>h
 |i:: l,s,h=>tN l (s:=LA s (ZC i)) (qE h _)
end P19
namespace P7
open Go.RowKit Kd P4 P5
attribute [local go_sem ↓] Go.wp_at_zero Go.wp_at_succ
def uw(w:World)(r:Rc)(e:Ending)(w':World):Prop:=∃A n c,e= .returned (.agg (lF r A n c))/\ZB w' ⟨A,n,c⟩ r.attrs/\fA w w'
theorem jP(r:Rc)(A:vA)(n c:Nat)(w:World)(hn:r.attrs.length=n)(hn2:n<=1000000)(hz:A=none->c=0/\n=0)(H:kA.AA w w.heap.size A r.attrs):jA 54 #[.agg (lF r A n c)] w (uw w r):=by
 have p:Hid (fA w ((w.alloc (.cells (lF r A n c) 87)).alloc (.cells #[aA 0,aA 0,aA 0,aA 0,oA,oA,oA,tA] 87))):=Zh ((Zb _ _).alloc FA _);have q:Hid (VC ((w.alloc (.cells (lF r A n c) 87)).alloc (.cells #[aA 0,aA 0,aA 0,aA 0,oA,oA,oA,tA] 87)) w.heap.size r A n c):=Zh (JB (VC.new w r A n c));have x:Hid (((w.alloc (.cells (lF r A n c) 87)).alloc (.cells #[aA 0,aA 0,aA 0,aA 0,oA,oA,oA,tA] 87)).heap[w.heap.size+1]? = some (.cells #[aA 0,aA 0,aA 0,aA 0,oA,oA,oA,tA] 87 (0,0))):=Zh (yD FA);have HN:=Zh hn;have HZ:=Zh hz;have HH:=Zh H;clear hn hz H;go_enter func54,ntmps54;go_upto_region 1 with fail;generalize (w.alloc (.cells (lF r A n c) 87)).alloc (.cells #[aA 0,aA 0,aA 0,aA 0,oA,oA,oA,tA] 87)=W at p q x|-;have t:=q.c7;go_wp2_with fail;refine(uT r.attrs A n c W HN hn2 HZ (HH.on p)).mono ?_;rintro e o ⟨a,b,f,rfl,Y,y⟩;have B:=Zh Y;have Z:=Zh (p.trans (y.mono p.size));have u:=Zh (q.below y q.lt);have Z2:Hid (o.heap[w.heap.size+1]? = some (.cells #[aA 0,aA 0,aA 0,aA 0,oA,oA,oA,tA] 87 (0,0))):=Zh ((y.block _ (JA x)).trans x);clear Y y t q x;have t:=u.c7;have f7:o.frozen? ⟨w.heap.size,7,none⟩=false:=(by have z:=u.out;unfold VC at z;simp[World.frozen?,z]);go_upto_region 2 with fail;have C:=u.out;unfold VC at C;have k:Hid (VC (o.setCell ⟨w.heap.size,7,none⟩ (.slice a b f)) w.heap.size r a b f):=Zh (by unfold VC;exact heap_set C 7 _);have j:Hid ((o.setCell ⟨w.heap.size,7,none⟩ (.slice a b f)).heap[w.heap.size+1]? = some (.cells #[aA 0,aA 0,aA 0,aA 0,oA,oA,oA,tA] 87 (0,0))):=Zh ((Below.heap_setCell _ _ _ _ FA).trans Z2);have B3:Hid (fA w (o.setCell ⟨w.heap.size,7,none⟩ (.slice a b f))):=Zh (Z.setCell FA _);have D:Hid (kA.Own (o.setCell ⟨w.heap.size,7,none⟩ (.slice a b f)) w.heap.size (.slice a b f) r.attrs):=Zh ((B.VB fun i E=>Below.heap_setCell _ _ _ _ (by rintro rfl;obtain⟨d,F⟩:=B.ty E;exact WA F u pA rfl)).dE p.size);clear t f7 p Z u Z2 B C;generalize o.setCell ⟨w.heap.size,7,none⟩ (.slice a b f)=W3 at k j B3 D|-;have a0:=k.c0;have a1:=k.c1;have a2:=k.c2;have a3:=k.c3;have a4:=k.c4;have a5:=k.c5;have a6:=k.c6;have t:=k.c7;have z0:=iB 0 j;have G:=iB 1 j;have I:=iB 2 j;have J:=iB 3 j;have K:=iB 4 j;have L:=iB 5 j;have M:=iB 6 j;have N:=iB 7 j;have l:∀i,W3.frozen? ⟨w.heap.size+1,i,none⟩=false:=fun i=>by have z:=j.out;simp[World.frozen?,z]
 have O:=l 0;have P:=l 1;have Q:=l 2;have R:=l 3;have S:=l 4;have T:=l 5;have U:=l 6;have V:=l 7;clear l;go_wp2_with fail;have m:Hid ((((((((((W3.setCell ⟨w.heap.size+1,0,none⟩ (aA r.op)).setCell ⟨w.heap.size+1,1,none⟩ (aA r.id)).setCell ⟨w.heap.size+1,2,none⟩ (aA r.par)).setCell ⟨w.heap.size+1,3,none⟩ (aA r.ZA)).setCell ⟨w.heap.size+1,4,none⟩ (bA r.tag)).setCell ⟨w.heap.size+1,5,none⟩ (bA r.txt)).setCell ⟨w.heap.size+1,6,none⟩ (bA r.key)).setCell ⟨w.heap.size+1,7,none⟩ (.slice a b f))).heap[w.heap.size+1]? = some (.cells (lF r a b f) 87 (0,0))):=Zh (heap_set (heap_set (heap_set (heap_set (heap_set (heap_set (heap_set (heap_set (j) 0 _) 1 _) 2 _) 3 _) 4 _) 5 _) 6 _) 7 _);have B4:Hid (fA w (((((((((W3.setCell ⟨w.heap.size+1,0,none⟩ (aA r.op)).setCell ⟨w.heap.size+1,1,none⟩ (aA r.id)).setCell ⟨w.heap.size+1,2,none⟩ (aA r.par)).setCell ⟨w.heap.size+1,3,none⟩ (aA r.ZA)).setCell ⟨w.heap.size+1,4,none⟩ (bA r.tag)).setCell ⟨w.heap.size+1,5,none⟩ (bA r.txt)).setCell ⟨w.heap.size+1,6,none⟩ (bA r.key)).setCell ⟨w.heap.size+1,7,none⟩ (.slice a b f)))):=Zh (Below.setCell (Below.setCell (Below.setCell (Below.setCell (Below.setCell (Below.setCell (Below.setCell (Below.setCell (B3) FA _) FA _) FA _) FA _) FA _) FA _) FA _) FA _);have O4:Hid (kA.Own (((((((((W3.setCell ⟨w.heap.size+1,0,none⟩ (aA r.op)).setCell ⟨w.heap.size+1,1,none⟩ (aA r.id)).setCell ⟨w.heap.size+1,2,none⟩ (aA r.par)).setCell ⟨w.heap.size+1,3,none⟩ (aA r.ZA)).setCell ⟨w.heap.size+1,4,none⟩ (bA r.tag)).setCell ⟨w.heap.size+1,5,none⟩ (bA r.txt)).setCell ⟨w.heap.size+1,6,none⟩ (bA r.key)).setCell ⟨w.heap.size+1,7,none⟩ (.slice a b f))) w.heap.size (.slice a b f) r.attrs):=Zh (D.VB fun i E=>by
  have X:i≠w.heap.size+1:=by
   rintro rfl;obtain⟨d,F⟩:=D.ty E;exact WA F j pA rfl
  exact YS (w.heap.size+1) X [aA r.op,aA r.id,aA r.par,aA r.ZA,bA r.tag,bA r.txt,bA r.key,.slice a b f] 0 W3)
 clear a0 a1 a2 a3 a4 a5 a6 t z0 G I J K L M N O P Q R S T U V;generalize ((((((((W3.setCell ⟨w.heap.size+1,0,none⟩ (aA r.op)).setCell ⟨w.heap.size+1,1,none⟩ (aA r.id)).setCell ⟨w.heap.size+1,2,none⟩ (aA r.par)).setCell ⟨w.heap.size+1,3,none⟩ (aA r.ZA)).setCell ⟨w.heap.size+1,4,none⟩ (bA r.tag)).setCell ⟨w.heap.size+1,5,none⟩ (bA r.txt)).setCell ⟨w.heap.size+1,6,none⟩ (bA r.key)).setCell ⟨w.heap.size+1,7,none⟩ (.slice a b f))=g at m B4 O4|-;have z0:=iB 0 m;have G:=iB 1 m;have I:=iB 2 m;have J:=iB 3 m;have K:=iB 4 m;have L:=iB 5 m;have M:=iB 6 m;have N:=iB 7 m;refine bodyPost_ret (v:=.agg (lF r a b f)) (by simp[results,results54,go_sem,z0,G,I,J,K,L,M,N]) rfl ⟨a,b,f,rfl,?_,B4⟩;obtain⟨s,hs,ha⟩:=ZB.own O4;injection hs with e1 e2 e3;subst e1;subst e2;subst e3;exact ha
theorem JR(v:vA)(w:World):jA 23 #[.pointer v] w fun e w'=>e= .returned (lA w.heap.size)/\w'=w.alloc (.cells #[.pointer v,tA] 103):=by
 go_enter func23,ntmps23;go_wp2_with fail;go_ret;exact⟨rfl,rfl⟩
variable{B p g:Nat}{x:Dx}{vd:Value}{rs:List RR}
theorem Ju{w6a w7:World}{v7:Value}{a:RR}(h:Lg w6a B g p vd rs)(hg:w6a.grownBy w7 vd.ownBlock)(ho:kR.Own w7 B v7 (rs++[a]))(ha:bK w6a a):
 Lg (w7.setCell (cA g 1) v7) B g p v7 (rs++[a])/\iA (eG g vd) w6a (w7.setCell (cA g 1) v7):=by
 have n:iA (fun k=>vd.ownBlock=some k) w6a w7:=iA.WG hg (fun i f _=>f);have j:vd.ownBlock≠some g:=by
  intro e;obtain⟨d,l⟩:=h.own.ty e;exact WA l h.zA pA rfl
 have o:w7.heap[g]? = some (.cells #[lA p,vd] 103 (0,0)):=(n.block g (JA h.zA) j).trans h.zA;have m:iA (eG g vd) w6a (w7.setCell (cA g 1) v7):=iA.setCell (n.mono fun _ _ f=> .inr f) (fun _=> .inl rfl) _;refine⟨⟨heap_set o 1 v7,h.base,ho.VB fun i f=>Below.heap_setCell _ _ _ _ ?_,fun b c=>?_⟩,m⟩
 ·rintro rfl;obtain⟨d,l⟩:=ho.ty f;exact WA l o pA rfl
 ·rcases List.mem_append.1 c with c|c
  ·exact⟨(h.ZP b c).mC.but m h.QE,(h.ZP b c).nD⟩
  ·rw[List.mem_singleton] at c;subst c;exact⟨ha.mC.but m h.QE,ha.nD⟩
def Xx(w:World)(B g p:Nat)(x:Dx)(vd:Value)(rs:List RR)(r:Rc)(c':Int)(e:Ending)(w':World):Prop:=
 e= .returned (QA c')/\∃x' vd' rs',wB w B g p x vd x' vd' rs' w'/\x'.d=(YA x.d r).2/\rs'.map (·.r)=(if c'=0 then rs.map (·.r)++[r] else rs.map (·.r))/\rs'.length<=rs.length+1
theorem Vn{l:List RR}{k:Nat}{a:RR}(hk:k<l.length)(h:a.r=l[k].r):(l.set k a).map (·.r)=l.map (·.r):=by
 apply List.ext_getElem
 ·simp
 ·intro i b c;simp only[List.getElem_map,List.getElem_set];split
  ·rename_i e;subst e;exact h
  ·rfl
theorem Wr{w6:World}{B g1 n c k:Nat}{l:List RR}{a:RR}(ho:kR.Own w6 B (.slice (some (cA g1 0)) n c) l)(hk:k<l.length)(hr:∀b∈l,bK w6 b)(ha:bK w6 a):
 kR.Own (w6.setCells g1 (k*8) a.cells) B (.slice (some (cA g1 0)) n c) (l.set k a)/\(∀b∈l.set k a,bK (w6.setCells g1 (k*8) a.cells) b)/\iA (fun i=>i=g1) w6 (w6.setCells g1 (k*8) a.cells):=by
 have e:iA (fun i=>i=g1) w6 (w6.setCells g1 (k*8) a.cells):=iA.setCells (S:=fun i=>i=g1) (iA.refl _ _) (fun _=>rfl) _ _;have m:vC w6 (fun i=>i=g1):=by
  rintro i o r rfl p;obtain⟨d,q⟩:=ho.ty (g:=i) rfl;exact WA p q pA rfl
 refine⟨Kind.Own.yx (K:=kR) ho hk a,fun b f=>?_,e⟩;rcases ZQ f with rfl|⟨j,hj,_,rfl⟩
 ·exact⟨ha.mC.but e m,ha.nD⟩
 ·exact⟨(hr _ (List.getElem_mem hj)).mC.but e m,(hr _ (List.getElem_mem hj)).nD⟩
def Ud(w:World)(rs:List RR)(e:Ending)(w':World):Prop:=∃A n c rs',e= .returned (.slice A n c)/\kR.Own w' w.heap.size (.slice A n c) rs'/\rs'.map (·.r)=rs.map (·.r)/\(∀a∈rs',bK w' a)/\fA w w'
theorem ub(w:World)(hl:rs.length<=1000000)(l:Lg w B g p vd rs):jA 26 #[lA g] w (Ud w rs):=by
 obtain⟨A2,n2,c2,F,G,H,I,J,K⟩:=cO l.own;have x:=Zh G;have Y:=Zh J;have Z:=Zh K;have L:=Zh l;have d1:=l.c1;rw[F] at d1;have ap:n2<=1000000:=dA;clear F G K J l H I;go_enter func26,ntmps26;go_wp2_with fail;refine(Te rs A2 n2 c2 w x dA Y Z).mono ?_;rintro e w1 ⟨A1,v,O,rfl,o1,b1⟩;have O1:=Zh o1;have B1:=Zh b1;have R1:=Zh (L.below b1).ZP;obtain⟨_,_,_,a8,M,_,a9,_⟩:=cO o1;injection a8 with e1 e2 e3;subst e2;obtain rfl:v=n2:=by rw[<-M];exact x
 clear M a9 e1 e3 o1 b1;go_wp2_with fail;go_loopw [13] (fun s wr=>∃(k:Nat) (l:List RR),k<=v/\s = aA k/\Hid (l.length=v)/\Hid (l.map (·.r)=rs.map (·.r))/\Hid (kR.Own wr w.heap.size (.slice A1 v O) l)/\Hid (∀a∈l,bK wr a)/\Hid (fA w wr)) (fun s _=>v-(intOf s).toNat)
 case atStart=>exact⟨0,rs,by omega,rfl,x,Zh rfl,O1,R1,B1⟩
 case round=>
  obtain⟨k,l,hk,rfl,HL,HM,P,Q,R⟩:=hrel;by_cases aq:k<v
  ·have n:k<l.length:=(IA HL.out);rcases P.form with⟨_,hl0⟩|⟨g1,c1',cur,y,_,hBg,hlt,hh,qD,UC,hcs,_⟩
   ·subst hl0;simp at n
   injection y with e1 e2 e3;subst e1;subst e3;obtain⟨_,_,_,y,_,_,_,_,q⟩:=cO P;injection y with e1 e2' e3';subst e1;subst e2';subst e3';obtain⟨b,o,he,_,g0,z,g2,g3,g4,g5,g6,g7⟩:=jX q n;injection he with he;injection he with S h2;subst S;subst h2;have m:=Zh (Q _ (List.getElem_mem n));have HD:Hid (∀a:RR,a.r=l[k].r->(l.set k a).map (·.r)=rs.map (·.r)):=Zh (fun a T=>by rw[Vn n T];exact HM);generalize l[k]=d at g0 z g2 g3 g4 g5 g6 g7 m HD;simp only[Nat.zero_add] at g0 z g2 g3 g4 g5 g6 g7;have aa:w.heap.size<=g1:=hBg;have ao:g1<wr.heap.size:=hlt;clear q hh qD UC hcs e2 hBg;go_upto_region 5 with fail;have t:=Zh (VC.new wr d.r d.va.A d.va.n d.va.c);have N:Hid (fA wr (wr.alloc (.cells (lF d.r d.va.A d.va.n d.va.c) 87))):=Zh (Zb _ _);generalize wr.alloc (.cells (lF d.r d.va.A d.va.n d.va.c) 87)=wa at t N|-;clear g0 z g2 g3 g4 g5 g6 g7;have a0:=t.c0;have a1:=t.c1;have a2:=t.c2;have a3:=t.c3;have a4:=t.c4;have a5:=t.c5;have a6:=t.c6;have a7:=t.c7;have ab:=m.nD;go_wp2_with fail;refine(jP d.r d.va.A d.va.n d.va.c wa m.mC.len ab (fun e=>by have S:=m.mC.nil e;have h2:=m.mC.cap;omega) (m.mC.below N).holds).mono ?_;rintro e c ⟨D,A,E,rfl,C,b6⟩;have U:=Zh (N.trans (b6.mono N.size));have ac:=Zh C;have O6:=Zh (P.below U Zl);have R6:Hid (∀a∈l,bK c a):=Zh (fun a T=>⟨(Q a T).mC.below U,(Q a T).nD⟩);have ad:A<=1000000:=(by have S:=C.len;have h2:=m.mC.len;simp only at S;omega);clear a0 a1 a2 a3 a4 a5 a6 a7 t N b6 C;have f:c.there g1 (k*8) 8:=by
    rcases O6.form with⟨y,_⟩|⟨g',c',cur,y,_,_,_,hh,qD,_,hcs,_⟩
    ·cases y
    injection y with e1 e2 e3;injection e1 with e1;injection e1 with e1;subst e1;subst e3;intro j hj;have ae:k*8+j<cur.size:=(by rw[hcs];show k*8+j<O*8;omega);exact⟨by rw[cell_of_row c g1 (k*8+j) _ _ (0,0) hh,Array.getElem?_eq_getElem ae];rfl,by simp[World.frozen?,hh]⟩
   obtain⟨⟨u0,af⟩,f0⟩:(∃u,c.cell? ⟨g1,k*8,none⟩=some u)/\c.frozen? ⟨g1,k*8,none⟩=false:=⟨Option.isSome_iff_exists.1 (f 0 dA).1,(f 0 dA).2⟩;obtain⟨⟨u1,ag⟩,f1⟩:(∃u,c.cell? ⟨g1,k*8+1,none⟩=some u)/\c.frozen? ⟨g1,k*8+1,none⟩=false:=⟨Option.isSome_iff_exists.1 (f 1 dA).1,(f 1 dA).2⟩;obtain⟨⟨u2,ah⟩,f2⟩:(∃u,c.cell? ⟨g1,k*8+2,none⟩=some u)/\c.frozen? ⟨g1,k*8+2,none⟩=false:=⟨Option.isSome_iff_exists.1 (f 2 dA).1,(f 2 dA).2⟩;obtain⟨⟨u3,ai⟩,f3⟩:(∃u,c.cell? ⟨g1,k*8+3,none⟩=some u)/\c.frozen? ⟨g1,k*8+3,none⟩=false:=⟨Option.isSome_iff_exists.1 (f 3 dA).1,(f 3 dA).2⟩;obtain⟨⟨u4,aj⟩,f4⟩:(∃u,c.cell? ⟨g1,k*8+4,none⟩=some u)/\c.frozen? ⟨g1,k*8+4,none⟩=false:=⟨Option.isSome_iff_exists.1 (f 4 dA).1,(f 4 dA).2⟩;obtain⟨⟨u5,ak⟩,f5⟩:(∃u,c.cell? ⟨g1,k*8+5,none⟩=some u)/\c.frozen? ⟨g1,k*8+5,none⟩=false:=⟨Option.isSome_iff_exists.1 (f 5 dA).1,(f 5 dA).2⟩;obtain⟨⟨u6,al⟩,f6⟩:(∃u,c.cell? ⟨g1,k*8+6,none⟩=some u)/\c.frozen? ⟨g1,k*8+6,none⟩=false:=⟨Option.isSome_iff_exists.1 (f 6 dA).1,(f 6 dA).2⟩;obtain⟨⟨u7,am⟩,f7⟩:(∃u,c.cell? ⟨g1,k*8+7,none⟩=some u)/\c.frozen? ⟨g1,k*8+7,none⟩=false:=⟨Option.isSome_iff_exists.1 (f 7 dA).1,(f 7 dA).2⟩;clear f;go_wp2_with fail;have hW:((((((((c.setCell ⟨g1,k*8,none⟩ (aA d.r.op)).setCell ⟨g1,k*8+1,none⟩ (aA d.r.id)).setCell ⟨g1,k*8+2,none⟩ (aA d.r.par)).setCell ⟨g1,k*8+3,none⟩ (aA d.r.ZA)).setCell ⟨g1,k*8+4,none⟩ (bA d.r.tag)).setCell ⟨g1,k*8+5,none⟩ (bA d.r.txt)).setCell ⟨g1,k*8+6,none⟩ (bA d.r.key)).setCell ⟨g1,k*8+7,none⟩ (.slice D A E))=c.setCells g1 (k*8) (RR.cells ⟨d.r,⟨D,A,E⟩⟩):=rfl;obtain⟨V,W,X⟩:=Wr O6 n R6 (a:=⟨d.r,⟨D,A,E⟩⟩) ⟨ac,ad⟩;rw[<-hW] at V W X;generalize ((((((((c.setCell ⟨g1,k*8,none⟩ (aA d.r.op)).setCell ⟨g1,k*8+1,none⟩ (aA d.r.id)).setCell ⟨g1,k*8+2,none⟩ (aA d.r.par)).setCell ⟨g1,k*8+3,none⟩ (aA d.r.ZA)).setCell ⟨g1,k*8+4,none⟩ (bA d.r.tag)).setCell ⟨g1,k*8+5,none⟩ (bA d.r.txt)).setCell ⟨g1,k*8+6,none⟩ (bA d.r.key)).setCell ⟨g1,k*8+7,none⟩ (.slice D A E))=W8 at V W X|-;have O8:=Zh V;have R8:=Zh W;have an:Hid (fA w W8):=Zh (R.trans ((U.mono R.size).trans (X.eD (fun i _ hi=>by subst hi;exact aa) (by have:=R.size;have:=U.size;omega))));clear hW V W X af f0 ag f1 ah f2 ai f3 aj f4 ak f5 al f6 am f7;go_roundw
   case rel=>exact⟨k+1,l.set k ⟨d.r,⟨D,A,E⟩⟩,by omega,by go_num,Zh (by rw[List.length_set];exact HL),Zh (HD ⟨d.r,⟨D,A,E⟩⟩ rfl),O8,R8,an⟩
   case measure=>simp[intOf];omega
  ·go_wp2_with fail;go_ret;exact⟨A1,v,O,l,rfl,P,HM,Q,R⟩
end P7
namespace P19
open Go.RowKit Kd P4 P5 P7
theorem gI(left:List Int)(A:vA)(n c:Nat)(beh:Int)(w:World)(H:kI.AA w w.heap.size A left)(hn:left.length=n):jA 241 #[.slice A n c,aA beh] w fun e w'=>e= .returned (aA (vB left beh))/\w=w':=by
 cases left with
 |nil=>
  obtain rfl:n=0:=hn.symm;clear H hn;go_enter func241,ntmps241;go_wp2_with fail;go_ret;exact⟨rfl,rfl⟩
 |cons i r=>
  obtain⟨b,o,rfl,f,a⟩:=yE H (k:=0) FA;have d:0<n:=(by rw[<-hn];simp);have g:((n:Int)==0)=false:=jB;have j:(0:Int)<(n:Int):=dA;simp only[Nat.add_zero,List.getElem_cons_zero] at a;clear H hn;go_enter func241,ntmps241;go_wp2_with fail;go_ret;exact⟨rfl,rfl⟩
theorem Ow(ids:List Int)(A:vA)(n c:Nat)(t:Int)(w:World)(ht:t<0):jA 175 #[.slice A n c,aA t] w fun e w'=>e= .returned (aA 0)/\w=w':=by
 go_enter func175,ntmps175;go_wp2_with fail;go_ret;exact⟨rfl,rfl⟩
theorem Po(ids:List Int)(A:vA)(n c k:Nat)(w:World)(hk:k<ids.length)(H:kI.AA w w.heap.size A ids)(hn:ids.length=n):jA 175 #[.slice A n c,aA k] w fun e w'=>e= .returned (aA ids[k])/\w=w':=by
 obtain⟨b,o,rfl,f,a⟩:=yE H hk;have d:k<n:=dA;clear H hn;generalize ids[k]=i at a;clear hk;go_enter func175,ntmps175;go_wp2_with fail;go_ret;exact⟨rfl,rfl⟩
end P19
namespace P8
open Go.RowKit Kd P4 P5
def wH(i:Int)(t:PT):Rc:=⟨1,i,0,0,t.tag,t.txt,t.key,[]⟩
def WI(i p b:Int):Rc:=⟨2,i,p,b,⟨#[]⟩,⟨#[]⟩,⟨#[]⟩,[]⟩
def QK(i:Int)(a:List P3.At):Rc:=⟨4,i,0,0,⟨#[]⟩,⟨#[]⟩,⟨#[]⟩,a⟩
structure TD where
 done:List Rc
 err:Int
 d:D
def yB(d:D):List Rc->TD
 |[]=>⟨[],0,d⟩
 |r:: l=>if(YA d r).1=0 then⟨r:: (yB (YA d r).2 l).done,(yB (YA d r).2 l).err,(yB (YA d r).2 l).d⟩ else⟨[],(YA d r).1,(YA d r).2⟩
def ID(i p b:Int)(t:PT):List Rc:=wH i t:: WI i p b:: (if t.attrs.isEmpty then[] else[QK i t.attrs])
def TD.on(a b:TD):TD:=⟨a.done++b.done,b.err,b.d⟩
mutual
def qB(d:D)(p b:Int):PT->TD
 | .mk tag txt key attrs kids=>
   if(yB d (ID (d.n+1) p b (.mk tag txt key attrs kids))).err=0 then(yB d (ID (d.n+1) p b (.mk tag txt key attrs kids))).on (jC (yB d (ID (d.n+1) p b (.mk tag txt key attrs kids))).d (d.n+1) kids)
   else yB d (ID (d.n+1) p b (.mk tag txt key attrs kids))
def jC(d:D)(p:Int):List PT->TD
 |[]=>⟨[],0,d⟩
 |t:: l=>if(qB d p 0 t).err=0 then(qB d p 0 t).on (jC (qB d p 0 t).d p l) else qB d p 0 t
end
theorem JQ(d:D)(p b:Int)(t:PT):qB d p b t=if(yB d (ID (d.n+1) p b t)).err=0 then(yB d (ID (d.n+1) p b t)).on (jC (yB d (ID (d.n+1) p b t)).d (d.n+1) t.kids) else yB d (ID (d.n+1) p b t):=by
 cases t;rw[qB];rfl
def ke(d:D)(p b:Int)(t:PT):Int:=if(qB d p b t).err=0 then d.n+1 else 0
theorem ER:∀(l:List Rc) {d:D},WF d->WF (yB d l).d
 |[],_,h=>h
 |r:: l,d,h=>by
  rw[yB];split
  ·exact ER l (jN h r)
  ·exact jN h r
theorem oZ:∀(l:List Rc) (d:D),0<=(yB d l).err/\(yB d l).err<=13
 |[],_=>by simp[yB]
 |r:: l,d=>by
  rw[yB];split
  ·exact oZ l _
  ·exact qh d r
theorem Wv(d:D)(i p b:Int):(YD d i p b).2.n=d.n:=by unfold YD;split<;>rfl
theorem sr(d:D)(i:Int)(a:List P3.At):(XD d i a).2.n=d.n:=by
 unfold XD;split
 ·rfl
 split
 ·rfl
 split<;>rfl
theorem pZ(d:D)(i p b:Int):YA d (WI i p b)=YD d i p b:=by
 unfold YA WI;simp
theorem yX(d:D)(i:Int)(a:List P3.At):YA d (QK i a)=XD d i a:=by
 unfold YA QK;simp
theorem Cu(d:D)(i p b:Int):(YA d (WI i p b)).2.n=d.n:=by
 rw[pZ];exact Wv _ _ _ _
theorem Ym(d:D)(i:Int)(a:List P3.At):(YA d (QK i a)).2.n=d.n:=by
 rw[yX];exact sr _ _ _
theorem Ec(d:D)(p b:Int)(t:PT):d.n<=(yB d (ID (d.n+1) p b t)).d.n/\(yB d (ID (d.n+1) p b t)).d.n<=d.n+1:=by
 have a:=wR d (wH (d.n+1) t);have c:=Cu (YA d (wH (d.n+1) t)).2 (d.n+1) p b;unfold ID;rw[yB];split
 ·rw[yB];split
  ·split
   ·simp only[yB];omega
   ·have e:=Ym (YA (YA d (wH (d.n+1) t)).2 (WI (d.n+1) p b)).2 (d.n+1) t.attrs;rw[yB];split
    ·simp only[yB];omega
    ·show d.n<=(YA _ _).2.n/\(YA _ _).2.n<=_;omega
  ·show d.n<=(YA _ _).2.n/\(YA _ _).2.n<=_;omega
 ·exact a
theorem nY(t:PT):∀(d:D) (p b:Int),(WF d->WF (qB d p b t).d)/\(0<=(qB d p b t).err/\(qB d p b t).err<=13)/\d.n<=(qB d p b t).d.n/\(qB d p b t).d.n<=d.n+countP t:=by
 induction t using PT.ind with
 |h tag txt key attrs kids ih=>
  have c:∀(l:List PT),(∀k∈l,k∈kids)->∀(d:D) (p:Int),(WF d->WF (jC d p l).d)/\(0<=(jC d p l).err/\(jC d p l).err<=13)/\d.n<=(jC d p l).d.n/\(jC d p l).d.n<=d.n+cB l:=by
   intro l
   induction l with
   |nil=>intro _ d p;simp[jC,cB]
   |cons a l ihl=>
    intro i d p;obtain⟨j,o,m,u⟩:=ih a (i a FA) d p 0;obtain⟨e,f,g,q⟩:=ihl (fun k r=>i k (by simp[r])) (qB d p 0 a).d p;rw[jC,cB];split
    ·exact⟨fun h=>e (j h),f,Int.le_trans m g,by show(jC _ _ _).d.n<=_;omega⟩
    ·exact⟨j,o,m,by omega⟩
  intro d p b;have n:=Ec d p b (.mk tag txt key attrs kids);have s:=oZ (ID (d.n+1) p b (.mk tag txt key attrs kids)) d;rw[qB,countP];split
  ·obtain⟨e,f,g,q⟩:=c kids (fun _ h=>h) (yB d (ID (d.n+1) p b (.mk tag txt key attrs kids))).d (d.n+1);exact⟨fun h=>e (ER _ h),f,Int.le_trans n.1 g,by show(jC _ _ _).d.n<=_;omega⟩
  ·exact⟨fun h=>ER _ h,s,n.1,by omega⟩
def mD(l:List Nd):Nat->Int->PT
 |0,_=> .mk ⟨#[]⟩ ⟨#[]⟩ ⟨#[]⟩ [] []
 |f+1,i=>match find l i with
  |none=> .mk ⟨#[]⟩ ⟨#[]⟩ ⟨#[]⟩ [] []
  |some nd=> .mk nd.tag nd.txt nd.key nd.attrs (nd.kids.map (mD l f))
mutual
def uO(l:List Nd)(lo:Int)(i:Int):PT->Prop
 | .mk tag txt key attrs kids=>lo<i/\∃nd,find l i=some nd/\nd.tag=tag/\nd.txt=txt/\nd.key=key/\nd.attrs=attrs/\aG l lo nd.kids kids
def aG(l:List Nd)(lo:Int):List Int->List PT->Prop
 |[],[]=>True
 |c:: cs,k:: ks=>uO l lo c k/\aG l lo cs ks
 |[],_:: _=>False
 |_:: _,[]=>False
end
theorem BU{l l':List Nd}{lo lo':Int}(hlo:lo'<=lo)(h:∀y nd,lo<y->find l y=some nd->find l' y=some nd)(t:PT):∀i,uO l lo i t->uO l' lo' i t:=by
 induction t using PT.ind with
 |h tag txt key attrs kids ih=>
  have d:∀(m:List PT),(∀k∈m,k∈kids)->∀b,aG l lo b m->aG l' lo' b m:=by
   intro m
   induction m with
   |nil=>intro _ b e;cases b<;>simp_all [aG]
   |cons a m ihm=>
    intro f b e;cases b with
    |nil=>simp[aG] at e
    |cons c b=>
     rw[aG] at e|-;exact⟨ih a (f a FA) c e.1,ihm (fun k j=>f k (by simp[j])) b e.2⟩
  intro i g;rw[uO] at g|-;obtain⟨n,nd,o,p,q,r,s,u⟩:=g;exact⟨by omega,nd,h i nd n o,p,q,r,s,d kids (fun _ h=>h) _ u⟩
theorem iR{l l':List Nd}{lo lo':Int}(hlo:lo'<=lo)(h:∀y nd,lo<y->find l y=some nd->find l' y=some nd):∀(m:List PT) (cs:List Int),aG l lo cs m->aG l' lo' cs m
 |[],[],_=>by simp[aG]
 |[],_:: _,hc=>by simp[aG] at hc
 |_:: _,[],hc=>by simp[aG] at hc
 |a:: m,c:: cs,hc=>by
  rw[aG] at hc|-;exact⟨BU hlo h a c hc.1,iR hlo h m cs hc.2⟩
def FG(p:Int)(ids:List Int)(x:Nd):Nd:=if x.id=p then YC (fun l=>l++ids) x else x
theorem oj(p:Int)(x:Nd):FG p [] x=x:=by
 unfold FG YC;split<;>simp
theorem oN{p:Int}{ids:List Int}{x:Nd}(h:x.id≠p):FG p ids x=x:=by unfold FG;rw[if_neg h]
theorem p6(p:Int)(ids:List Int)(x:Nd):(FG p ids x).id=x.id:=by unfold FG;split<;>rfl
theorem pj(p:Int)(ids:List Int)(x:Nd):(FG p ids x).tag=x.tag:=by unfold FG;split<;>rfl
theorem qZ(p:Int)(a b:List Int)(x:Nd):FG p b (FG p a x)=FG p (a++b) x:=by
 by_cases h:x.id=p
 ·unfold FG;rw[if_pos h,if_pos (show(YC (fun l=>l++a) x).id=p from h),if_pos h];simp[YC]
 ·rw[oN h,oN h,oN h]
structure xH(d:D)(p:Int)(ids:List Int)(lH:Nat)(d':D):Prop where
 wf:WF d'
 n:d'.n=d.n+lH
 R:d'.R=d.R
 len:d'.l.length=d.l.length+lH
 old:∀y,y<=d.n->find d'.l y=(find d.l y).map (FG p ids)
theorem xH.same{d:D}(h:WF d)(p:Int):xH d p [] 0 d:=
 ⟨h,by simp,rfl,by simp,fun y _=>by
  rw[show FG p []=id from funext fun x=>oj p x];simp⟩
theorem xH.tag{d d':D}{p:Int}{ids:List Int}{lH:Nat}(h:xH d p ids lH d'){y:Int}(hy:y<=d.n):RA d'.l y=RA d.l y:=by
 unfold RA;rw[h.old y hy];cases find d.l y with
 |none=>rfl
 |some x=>exact pj p ids x
theorem xH.has{d d':D}{p:Int}{ids:List Int}{lH:Nat}(h:xH d p ids lH d'){y:Int}(hy:y<=d.n):nA d'.l y=nA d.l y:=by
 unfold nA;rw[h.old y hy];cases find d.l y<;>rfl
theorem Zm{t:PT}(h:iC t=true):xC t.tag t.txt t.key=true:=by
 cases t with
 |mk tag txt key attrs kids=>
  rw[iC] at h;show xC tag txt key=true;unfold xC;by_cases e:tag.toList=[]
  ·rw[if_pos (by simp[e])] at h;rw[if_pos e];simp only[Bool.and_eq_true,List.isEmpty_iff] at h;simp[h.1.1.1,h.1.1.2]
  ·rw[if_neg (by simpa using e)] at h;rw[if_neg e];simp only[Bool.and_eq_true,List.isEmpty_iff] at h;simp[h.1.1.1.1.1,h.1.1.1.1.2,h.1.1.2]
theorem Va{d:D}{t:PT}(hm:iC t=true)(hR:d.l.length<d.R):YA d (wH (d.n+1) t)=(0,{d with l:=d.l++[IB (d.n+1) t.tag t.txt t.key],n:=d.n+1}):=by
 unfold YA;rw[if_pos (show(wH (d.n+1) t).op=1 from rfl)];unfold rE;rw[if_neg,if_neg dA]
 ·rfl
 ·rintro(e|e)
  ·exact e rfl
  ·rw[show xC (wH (d.n+1) t).tag (wH (d.n+1) t).txt (wH (d.n+1) t).key=true from Zm hm] at e;cases e
section
variable{d:D}{p:Int}{tag txt key:qA}
theorem pN(h:WF d)(y:Int):find (d.l++[IB (d.n+1) tag txt key]) y=if y=d.n+1 then some (IB (d.n+1) tag txt key) else find d.l y:=gN (l:=d.l) (x:=IB (d.n+1) tag txt key) h.next y
theorem ur(h:WF d):EA (d.l++[IB (d.n+1) tag txt key])=EA d.l:=by
 funext y;unfold EA;rw[pN h];by_cases e:y=d.n+1
 ·have e0:find d.l y=none:=(by rw[e];simpa[nA] using h.next);rw[if_pos e,e0];rfl
 ·rw[if_neg e]
theorem vr(h:WF d)(hp:nA d.l p=true)(hk:qC (RA d.l p)=false):SI (d.l++[IB (d.n+1) tag txt key]) (d.n+1) p 0:=by
 have e:=h.pos hp;have g:=h.n0;have c:find (d.l++[IB (d.n+1) tag txt key]) p=find d.l p:=(by rw[pN h,if_neg dA]);refine⟨?_,?_,.inl rfl,?_,by omega,?_⟩
 ·unfold nA;rw[pN h,if_pos rfl];rfl
 ·unfold nA;rw[c];exact hp
 ·unfold inside;rw[decide_eq_false_iff_not];intro f;obtain⟨j,b,_⟩:=ZN _ _ _ f;rw[ur h] at b;have:=h.tr.pW hp j (by rw[b];omega);rw[b] at this;have a:=h.next;rw[this] at a;cases a
 ·unfold RA;rw[c];exact hk
theorem kn(h:WF d):SA (d.l++[IB (d.n+1) tag txt key]) (d.n+1) p 0=mB (mB (d.l++[IB (d.n+1) tag txt key]) p (YC fun l=>l++[d.n+1])) (d.n+1) (VD p):=by
 have e:UA (d.l++[IB (d.n+1) tag txt key]) (d.n+1)=d.l++[IB (d.n+1) tag txt key]:=by
  unfold UA;rw[if_pos];unfold EA;rw[pN h,if_pos rfl];rfl
 unfold SA;rw[e];rfl
end
theorem xr{d:D}{p:Int}{t:PT}(h:WF d)(hp:nA d.l p=true)(hk:qC (RA d.l p)=false)(hm:iC t=true)(hR:d.l.length<d.R)(ha:P3.kC t.attrs=true/\t.tag.toList≠[]\/t.attrs=[]):
 ∃d1,yB d (ID (d.n+1) p 0 t)=⟨ID (d.n+1) p 0 t,0,d1⟩/\d1.n=d.n+1/\d1.R=d.R/\d1.l.length=d.l.length+1/\find d1.l (d.n+1)=some ⟨d.n+1,p,t.tag,t.txt,t.key,t.attrs,[],0⟩/\∀y,y≠d.n+1->find d1.l y=(find d.l y).map (FG p [d.n+1]):=by
 have s:=h.pos hp;have g:=vr (tag:=t.tag) (txt:=t.txt) (key:=t.key) h hp hk;have o:YA {d with l:=d.l++[IB (d.n+1) t.tag t.txt t.key],n:=d.n+1} (WI (d.n+1) p 0)=(0,{d with l:=SA (d.l++[IB (d.n+1) t.tag t.txt t.key]) (d.n+1) p 0,n:=d.n+1}):=by
  rw[pZ];unfold YD;rw[if_pos g.ok]
 obtain⟨l2,f⟩:=DA (SA (d.l++[IB (d.n+1) t.tag t.txt t.key]) (d.n+1) p 0);have r:∀y,find l2 y=((find (d.l++[IB (d.n+1) t.tag t.txt t.key]) y).map fun x=>if x.id=p then YC (fun l=>l++[d.n+1]) x else x).map fun x=>if x.id=d.n+1 then VD p x else x:=by
  intro y;rw[<-f,kn h,bJ _ _ (VD p) (fun _=>rfl),bJ _ _ (YC fun l=>l++[d.n+1]) (fun _=>rfl)]
 have a:find l2 (d.n+1)=some ⟨d.n+1,p,t.tag,t.txt,t.key,[],[],0⟩:=by
  rw[r,pN h,if_pos rfl];simp only[Option.map_some,IB];rw[if_neg (show¬(d.n+1=p) by omega),if_pos rfl];rfl
 have j:∀y,y≠d.n+1->find l2 y=(find d.l y).map (FG p [d.n+1]):=by
  intro y q;rw[r,pN h,if_neg q];cases hf:find d.l y with
  |none=>rfl
  |some x=>
   have hx:=(kG hf).2;simp only[Option.map_some];unfold FG;by_cases e:x.id=p
   ·rw[if_pos e,if_neg (show¬((YC (fun l=>l++[d.n+1]) x).id=d.n+1) by show¬(x.id=d.n+1);omega)]
   ·rw[if_neg e,if_neg dA]
 have c:l2.length=d.l.length+1:=by
  have:=GK (VU (l:=d.l++[IB (d.n+1) t.tag t.txt t.key]) (i:=d.n+1) (p:=p) (b:=0));rw[f] at this;rw[this];simp
 rw[f] at o;by_cases m:t.attrs=[]
 ·refine⟨{d with l:=l2,n:=d.n+1},?_,rfl,rfl,c,by rw[m];exact a,j⟩;unfold ID;rw[if_pos (by simp[m]),yB,Va hm hR,if_pos rfl,yB,o,if_pos rfl];rfl
 ·have k:=ha.resolve_right m;have u:YA {d with l:=l2,n:=d.n+1} (QK (d.n+1) t.attrs)=(0,{d with l:=mB l2 (d.n+1) (pH t.attrs),n:=d.n+1}):=by
   rw[yX];unfold XD;have v:nA l2 (d.n+1)=true:=(by unfold nA;rw[a];rfl);have w:RA l2 (d.n+1)=t.tag:=(by unfold RA;rw[a]);show(if nA l2 (d.n+1)=false then _ else if(RA l2 (d.n+1)).toList=[] then _ else if P3.kC t.attrs=false then _ else _)=_;rw[v,w,if_neg FA,if_neg k.2,k.1,if_neg FA]
  refine⟨{d with l:=mB l2 (d.n+1) (pH t.attrs),n:=d.n+1},?_,rfl,rfl,by show(mB l2 _ _).length=_;rw[nq];exact c,?_,fun y q=>?_⟩
  ·unfold ID;rw[if_neg (by simpa using m),yB,Va hm hR,if_pos rfl,yB,o,if_pos rfl,yB,u,if_pos rfl];rfl
  ·show find (mB l2 _ _) _=_;rw[bJ _ _ (pH t.attrs) (fun _=>rfl),a,Option.map_some,if_pos rfl];rfl
  ·show find (mB l2 _ _) _=_;rw[bJ _ _ (pH t.attrs) (fun _=>rfl),j y q];cases hf:find d.l y with
   |none=>rfl
   |some x=>
    have hx:=(kG hf).2;simp only[Option.map_some];rw[if_neg (by rw[p6];omega)]
theorem qj{t:PT}(hm:iC t=true):P3.kC t.attrs=true/\t.tag.toList≠[]\/t.attrs=[]:=by
 cases t with
 |mk tag txt key attrs kids=>
  rw[iC] at hm;by_cases e:tag.toList=[]
  ·rw[if_pos (by simp[e])] at hm;simp only[Bool.and_eq_true,List.isEmpty_iff] at hm;exact .inr hm.1.2
  ·rw[if_neg (by simpa using e)] at hm;simp only[Bool.and_eq_true] at hm;exact .inl ⟨hm.1.1.1.2,e⟩
theorem mn{t:PT}(hm:iC t=true)(hk:t.kids≠[]):gD t.kids=true/\qC t.tag=false:=by
 cases t with
 |mk tag txt key attrs kids=>
  have a:kids≠[]:=hk;rw[iC] at hm;by_cases e:tag.toList=[]
  ·rw[if_pos (by simp[e])] at hm;simp only[Bool.and_eq_true,List.isEmpty_iff] at hm;exact absurd hm.2 a
  ·rw[if_neg (by simpa using e)] at hm;simp only[Bool.and_eq_true,Bool.not_eq_true',Bool.and_eq_false_iff] at hm;refine⟨hm.2,?_⟩;show qC tag=false;unfold qC;rcases hm.1.2 with h|h
   ·simp[e,h]
   ·simp at h;exact absurd h a
theorem built(t:PT):∀(d:D) (p:Int),WF d->nA d.l p=true->qC (RA d.l p)=false->iC t=true->d.l.length+countP t<=d.R->
 (qB d p 0 t).err=0/\xH d p [d.n+1] (countP t) (qB d p 0 t).d/\uO (qB d p 0 t).d.l d.n (d.n+1) t:=by
 induction t using PT.ind with
 |h tag txt key attrs kids ih=>
  have q:∀(m:List PT),(∀k∈m,k∈kids)->∀(d:D) (p:Int),WF d->nA d.l p=true->qC (RA d.l p)=false->gD m=true->d.l.length+cB m<=d.R->
   ∃b,(jC d p m).err=0/\xH d p b (cB m) (jC d p m).d/\aG (jC d p m).d.l d.n b m:=by
   intro m
   induction m with
   |nil=>intro _ d p h _ _ _ _;exact⟨[],by simp[jC],by simpa[jC,cB] using xH.same h p,by simp[aG]⟩
   |cons a m ihm=>
    intro E d p h n o c u;rw[gD,Bool.and_eq_true] at c;rw[cB] at u;obtain⟨v,g,J⟩:=ih a (E a FA) d p h n o c.1 dA;have l:=h.pos n;obtain⟨b,w,f,z⟩:=ihm (fun k o=>E k (by simp[o])) (qB d p 0 a).d p g.wf (by rw[g.has l.2];exact n) (by rw[g.tag l.2];exact o) c.2 (by rw[g.R,g.len];omega);have r:=g.n;refine⟨(d.n+1):: b,?_,?_,?_⟩
    ·rw[jC,if_pos v];exact w
    ·rw[jC,if_pos v,cB];refine⟨f.wf,?_,?_,?_,fun y A=>?_⟩
     ·show(jC _ _ _).d.n=_;rw[f.n,g.n];simp;omega
     ·show(jC _ _ _).d.R=_;rw[f.R,g.R]
     ·show(jC _ _ _).d.l.length=_;rw[f.len,g.len];omega
     ·show find (jC _ _ _).d.l y=_;rw[f.old y (by rw[r];omega),g.old y A,Option.map_map];congr 1;funext x;exact qZ p [d.n+1] b x
    ·rw[jC,if_pos v,aG];refine⟨BU (Int.le_refl _) (fun y B A i=>?_) a _ J,iR (by rw[r];omega) (fun y B _ i=>i) m b z⟩;show find (jC _ _ _).d.l y=_;have F:=g.wf.zJ B (kG i).1;have K:=(kG i).2;rw[f.old y dA,i,Option.map_some,oN dA]
  intro d p h n o c u;have l:=h.pos n;rw[countP] at u;obtain⟨d1,G,L,H,I,C,M⟩:=xr (t:=.mk tag txt key attrs kids) h n o c dA (qj c);have j:WF d1:=by
   have:=ER (ID (d.n+1) p 0 (.mk tag txt key attrs kids)) h;rw[G] at this;exact this
  have e:qB d p 0 (.mk tag txt key attrs kids)=(⟨ID (d.n+1) p 0 (.mk tag txt key attrs kids),0,d1⟩:TD).on (jC d1 (d.n+1) kids):=by
   rw[qB,G,if_pos rfl]
  obtain⟨b,w,f,z⟩:∃b,(jC d1 (d.n+1) kids).err=0/\xH d1 (d.n+1) b (cB kids) (jC d1 (d.n+1) kids).d/\aG (jC d1 (d.n+1) kids).d.l d1.n b kids:=by
   by_cases s:kids=[]
   ·subst s;exact⟨[],by simp[jC],by simpa[jC,cB] using xH.same j (d.n+1),by simp[aG]⟩
   ·obtain⟨N,O⟩:=mn c s;exact q kids (fun _ h=>h) d1 (d.n+1) j (vK C) (by unfold RA;rw[C];exact O) N (by rw[H,I];omega)
  rw[e,countP];refine⟨w,⟨f.wf,?_,?_,?_,fun y A=>?_⟩,?_⟩
  ·show(jC _ _ _).d.n=_;rw[f.n,L];simp;omega
  ·show(jC _ _ _).d.R=_;rw[f.R,H]
  ·show(jC _ _ _).d.l.length=_;rw[f.len,I];omega
  ·show find (jC _ _ _).d.l y=_;rw[f.old y dA,M y dA,Option.map_map];cases i:find d.l y with
   |none=>rfl
   |some x=>
    have hx:=(kG i).2;simp only[Option.map_some,Function.comp_apply];rw[oN (p:=d.n+1) (by rw[p6];omega)]
  ·rw[uO];refine⟨by omega,⟨d.n+1,p,tag,txt,key,attrs,b,0⟩,?_,rfl,rfl,rfl,rfl,iR dA (fun y B _ i=>i) kids b z⟩;show find (jC _ _ _).d.l _=_;rw[f.old (d.n+1) dA,C];simp[FG,YC,PT.tag,PT.txt,PT.key,PT.attrs]
end P8
end Go.Proofs.YtimfajmknmlajaaGreatDoor
