/- A part of the proof. No condition. -/
import Derived.Deep.RegionHeld3
import Derived.Deep.Cut
import Derived.Test.YtimfajmknmlajaaGreatDoorM1
import Derived.Test.YtimfajmknmlajaaGreatDoorM3
import Derived.Test.YtimfajmknmlajaaGreatDoorM5
import Derived.Test.YtimfajmknmlajaaGreatDoorM6
import Derived.Test.YtimfajmknmlajaaGreatDoorM10
import Derived.Test.YtimfajmknmlajaaGreatDoorM11
import Derived.Test.YtimfajmknmlajaaGreatDoorM12
import Derived.Test.YtimfajmknmlajaaGreatDoorM14
set_option linter.unusedVariables false
set_option linter.unusedSimpArgs false
set_option maxRecDepth 100000
set_option maxHeartbeats 40000000
namespace Go.Proofs.YtimfajmknmlajaaGreatDoor
open Go.Proofs.Tryz
namespace P19
open Go.RowKit Kd P4 P5 P7 P14 P16
def EF(p:Nat)(x:Dx)(g:Nat)(vd:Value)(k:Nat):Prop:=fC p x k\/eG g vd k
def Dd(w:World)(B g p:Nat)(x:Dx)(vd:Value)(rs:List RR)(par:Int)(ids:List Int)(beh:Int)(want:List PW)(e:Ending)(w':World):Prop:=
 ∃(code:Int) (x':Dx) (vd':Value) (rs':List RR),e= .returned (QA code)/\wB w B g p x vd x' vd' rs' w'/\
  (¬PF x.d.l par ids beh->code=1/\x'.d=x.d/\rs'.map (·.r)=rs.map (·.r))/\
  (PF x.d.l par ids beh->nA x.d.l par=true->cG (dL want+1) (x.d,rs.map (·.r)) par ids beh want->code=0/\(x'.d,rs'.map (·.r))=uB (dL want+1) (x.d,rs.map (·.r)) par ids beh want)
structure Mw:Prop where
 Ed:∀(p:Nat) (par beh:Int) (A A':vA) (n c n' c':Nat) (w:World),jA 86 #[.pointer none,lA p,aA par,.slice A n c,aA beh,.slice A' n' c'] w fun e w'=>e= .returned (QA 1)/\fA w w'
 run:∀(w:World) (B g p:Nat) (x:Dx) (vd:Value) (rs:List RR) (par:Int) (ids:List Int) (A:vA) (n c:Nat) (beh:Int) (A':vA) (n' c':Nat) (ts:List WV),
  Dc w B p x->WF x.d->vJ x.d->Lg w B g p vd rs->(∀w',iA (EF p x g vd) w w'->kI.AA w' w'.heap.size A ids)->ids.length=n->n<=c->c<=maxLen->(A=none->c=0)->n<=1000->
  (∀w',iA (EF p x g vd) w w'->Wm kW w' A' n' c' ts)->(∀t∈yA ts,tC t)->cD (yA ts)<=1000->x.n+(pC (yA ts):Nat)<=90000->rs.length+2000*(pC (yA ts)+1)<=800000->
  jA 86 #[lA g,lA p,aA par,.slice A n c,aA beh,.slice A' n' c'] w (Dd w B g p x vd rs par ids beh (yA ts))
end P19
namespace P8
open Go.RowKit Kd P4 P5
inductive AB(w:World)(Q:Nat->Prop):TV->Prop
 |mk {tag txt key:qA} {sa sk:Sv} {attrs:List P3.At} {kids:List TV} (at_:ZB w sa attrs) (own:kT.Own w 0 (.slice sk.A sk.n sk.c) kids) (q:∀b,(Value.slice sk.A sk.n sk.c).ownBlock=some b->Q b) (ks:∀k∈kids,AB w Q k):AB w Q (.mk tag txt key sa attrs sk kids)
section
variable{w w':World}{Q R S:Nat->Prop}{t:TV}
theorem AB.at_(h:AB w Q t):ZB w t.sa t.attrs:=by cases h;assumption
theorem AB.own(h:AB w Q t):kT.Own w 0 (.slice t.sk.A t.sk.n t.sk.c) t.kids:=by cases h;assumption
theorem AB.q(h:AB w Q t):∀b,(Value.slice t.sk.A t.sk.n t.sk.c).ownBlock=some b->Q b:=by cases h;assumption
theorem AB.ks(h:AB w Q t):∀k∈t.kids,AB w Q k:=by cases h;assumption
theorem AB.mono(h:AB w Q t)(hq:∀b,b<w.heap.size->Q b->R b):AB w R t:=by
 induction t using TV.ind with
 |h tag txt key sa attrs sk kids ih=>exact⟨h.at_,h.own,fun b a=>hq b (h.own.lt a).2 (h.q b a),fun k c=>ih k c (h.ks k c)⟩
theorem AB.but(h:AB w Q t)(hb:iA S w w')(hS:∀b,Q b->¬S b)(hA:vC w S):AB w' Q t:=by
 induction t using TV.ind with
 |h tag txt key sa attrs sk kids ih=>exact⟨h.at_.but hb hA,h.own.but hb (fun b e=>hS b (h.q b e)),h.q,fun k a=>ih k a (h.ks k a)⟩
theorem AB.later(h:AB w Q t)(hb:fA w w'):AB w' Q t:=h.but (iA.oB hb (fun _=>False)) (fun _ _ h=>h) (vC.none w)
theorem AB.ok(h:AB w Q t):EC w w.heap.size t:=by
 induction t using TV.ind with
 |h tag txt key sa attrs sk kids ih=>
  have a:=h.at_;have b:=h.own;simp only[TV.sa,TV.attrs] at a;simp only[TV.sk,TV.kids] at b;obtain⟨A,n,c,f,g,i,m,j,l⟩:=b.slice;injection f with v1 v2 v3;subst v1;subst v2;subst v3;exact⟨a.len,a.cap,a.nil,a.holds,g,i,fun e=>j e,l,fun k d=>ih k d (h.ks k d)⟩
end
def tG:TV:=.mk ⟨#[]⟩ ⟨#[]⟩ ⟨#[]⟩ ⟨none,0,0⟩ [] ⟨none,0,0⟩ []
theorem zh{l:List Nd}{i:Int}{nd:Nd}(h:find l i=some nd)(f:Nat):mD l (f+1) i= .mk nd.tag nd.txt nd.key nd.attrs (nd.kids.map (mD l f)):=by rw[mD,h]
theorem uN{S:Nat->Prop}{w:World}(h:∀b,S b->∃cur,w.heap[b]? = some (.cells cur 81 (0,0))):vC w S:=fun k cur f a d=>by
 obtain⟨c,e⟩:=h k a;exact WA d e pA rfl
structure bQ(w w':World)(g:Nat)(D:Nat)(tag txt key:qA)(sa:Sv)(attrs:List P3.At)(A:vA)(n c:Nat)(l:List TV)(Q:Nat->Prop):Prop where
 tb:TB w' g (.mk tag txt key sa attrs ⟨A,n,c⟩ l)
 own:kT.Own w' D (.slice A n c) l
 ks:∀k∈l,AB w' (fun b=>Q b/\(Value.slice A n c).ownBlock≠some b) k
theorem Kj{w5 w7:World}{o:Obj}{g D:Nat}{tag txt key:qA}{sa:Sv}{attrs:List P3.At}{A A7:vA}{n c n7 c7:Nat}{l:List TV}{k:TV}{Q:Nat->Prop}(hQ:∀b,Q b->b≠g)(hD:g<D)
 (tb:TB w5 g (.mk tag txt key sa attrs ⟨A,n,c⟩ l)) (own:kT.Own w5 D (.slice A n c) l) (ks:∀k∈l,AB w5 (fun b=>Q b/\(Value.slice A n c).ownBlock≠some b) k)
 (hk:AB w5 (fun b=>Q b/\(Value.slice A n c).ownBlock≠some b) k) (hg:(w5.alloc o).grownBy w7 (Value.slice A n c).ownBlock) (hown:kT.Own w7 D (.slice A7 n7 c7) (l++[k])) (hat:(Value.slice A7 n7 c7).ownBlock=(Value.slice A n c).ownBlock\/(Value.slice A7 n7 c7).ownBlock=some (w5.alloc o).heap.size):
 bQ w5 (w7.setCell (cA g 4) (.slice A7 n7 c7)) g D tag txt key sa attrs A7 n7 c7 (l++[k]) Q/\iA (fun b=>b=g\/(Value.slice A n c).ownBlock=some b) w5 (w7.setCell (cA g 4) (.slice A7 n7 c7)):=by
 have q:iA (fun b=>(Value.slice A n c).ownBlock=some b) w5 w7:=(iA.alloc (iA.refl _ _) _).trans (iA.WG (S:=fun i=>(Value.slice A n c).ownBlock=some i) hg (fun i f _=>f)) (fun _ _ h=>h);have j:(Value.slice A n c).ownBlock≠some g:=fun e=>by have:=(own.lt e).1;omega
 have s:TB w7 g (.mk tag txt key sa attrs ⟨A,n,c⟩ l):=(q.block g tb.lt j).trans tb;have r:iA (fun b=>b=g\/(Value.slice A n c).ownBlock=some b) w5 (w7.setCell (cA g 4) (.slice A7 n7 c7)):=iA.setCell (q.mono fun _ _ f=> .inr f) (fun _=> .inl rfl) _;have t:∀b,(b=g\/(Value.slice A n c).ownBlock=some b)->∃cur,w5.heap[b]? = some (.cells cur 81 (0,0)):=by
  rintro b (rfl|e)
  ·exact⟨_,tb⟩
  ·exact own.ty e
 have a:∀k:TV,AB w5 (fun b=>Q b/\(Value.slice A n c).ownBlock≠some b) k->AB (w7.setCell (cA g 4) (.slice A7 n7 c7)) (fun b=>Q b/\(Value.slice A7 n7 c7).ownBlock≠some b) k:=by
  intro k h;have u:AB w5 (fun b=>(Q b/\(Value.slice A n c).ownBlock≠some b)/\b<w5.heap.size) k:=h.mono fun b m d=>⟨d,m⟩
  refine(u.but r (fun b d v=>?_) (uN t)).mono fun b _ d=>⟨d.1.1,fun e=>?_⟩
  ·rcases v with e|e
   ·exact hQ b d.1.1 e
   ·exact d.1.2 e
  ·rcases hat with h2|h2
   ·exact d.1.2 (h2▸e)
   ·rw[h2] at e;injection e with e;have:=d.2;simp at e;omega
 refine⟨⟨?_,?_,fun k p=>?_⟩,r⟩
 ·exact heap_set s 4 _
 ·refine hown.VB (fun b m=>Below.heap_setCell _ _ _ _ ?_);rintro rfl;have:=(hown.lt m).1;omega
 ·rcases List.mem_append.1 p with h|h
  ·exact a k (ks k h)
  ·rw[List.mem_singleton.1 h];exact a _ hk
end P8
namespace P10
open Go.RowKit Kd P4 P5 P8 P9
def Gv(w:World)(p:List PT×uA)(e:Ending)(w':World):Prop:=∃(A:vA) (n c:Nat) (ts:List TV),e= .returned (.tuple #[.slice A n c,bA (bs p.2)])/\yA ts=p.1/\kT.Own w' w.heap.size (.slice A n c) ts/\(∀t∈ts,AB w' (fun b=>w.heap.size<=b/\(Value.slice A n c).ownBlock≠some b) t)/\fA w w'
def Ev(w:World)(p:PT×uA)(e:Ending)(w':World):Prop:=∃tv:TV,e= .returned (.tuple #[.agg #[bA tv.tag,bA tv.txt,bA tv.key,.slice tv.sa.A tv.sa.n tv.sa.c,.slice tv.sk.A tv.sk.n tv.sk.c],bA (bs p.2)])/\er tv=p.1/\AB w' (fun b=>w.heap.size<=b) tv/\fA w w'
theorem MR(x:qA)(n:Nat):(x.extract n x.size).data.toList=x.data.toList.drop n:=P2.U7 x n
theorem MN{x:qA}(h:0<x.size):x.data.toList.head? = some x[0]:=by
 rw[List.head?_eq_getElem?,List.getElem?_eq_getElem (by simpa using h)];rfl
theorem EG(x:qA):x.data.toList.length=x.size:=by simp
theorem Y7{x:qA}(h:x.size=0):x.data.toList=[]:=List.eq_nil_of_length_eq_zero (by rw[EG,h])
theorem Oj{w5 w7:World}{o:Obj}{D:Nat}{A A7:vA}{n c n7 c7:Nat}{l:List TV}{k:TV}{Q:Nat->Prop}(own:kT.Own w5 D (.slice A n c) l)
 (ks:∀k∈l,AB w5 (fun b=>Q b/\(Value.slice A n c).ownBlock≠some b) k) (hk:AB w5 (fun b=>Q b/\(Value.slice A n c).ownBlock≠some b) k) (hg:(w5.alloc o).grownBy w7 (Value.slice A n c).ownBlock)
 (hat:(Value.slice A7 n7 c7).ownBlock=(Value.slice A n c).ownBlock\/(Value.slice A7 n7 c7).ownBlock=some (w5.alloc o).heap.size):
 (∀t∈l++[k],AB w7 (fun b=>Q b/\(Value.slice A7 n7 c7).ownBlock≠some b) t)/\iA (fun b=>(Value.slice A n c).ownBlock=some b) w5 w7:=by
 have f:iA (fun b=>(Value.slice A n c).ownBlock=some b) w5 w7:=(iA.alloc (iA.refl _ _) _).trans (iA.WG (S:=fun i=>(Value.slice A n c).ownBlock=some i) hg (fun i g _=>g)) (fun _ _ h=>h);have j:∀b,(Value.slice A n c).ownBlock=some b->∃cur,w5.heap[b]? = some (.cells cur 81 (0,0)):=fun b e=>own.ty e
 have a:∀k:TV,AB w5 (fun b=>Q b/\(Value.slice A n c).ownBlock≠some b) k->AB w7 (fun b=>Q b/\(Value.slice A7 n7 c7).ownBlock≠some b) k:=by
  intro k h;have m:AB w5 (fun b=>(Q b/\(Value.slice A n c).ownBlock≠some b)/\b<w5.heap.size) k:=h.mono fun b p d=>⟨d,p⟩
  refine(m.but f (fun b d q=>d.1.2 q) (uN j)).mono fun b _ d=>⟨d.1.1,fun e=>?_⟩
  rcases hat with h2|h2
  ·exact d.1.2 (h2▸e)
  ·rw[h2] at e;injection e with e;have:=d.2;simp at e;omega
 refine⟨fun t r=>?_,f⟩;rcases List.mem_append.1 r with h|h
 ·exact a t (ks t h)
 ·rw[List.mem_singleton.1 h];exact a _ hk
def yS(t:qA):TV:=.mk ⟨#[]⟩ t ⟨#[]⟩ ⟨none,0,0⟩ [] ⟨none,0,0⟩ []
theorem k8(w:World)(t:qA)(Q:Nat->Prop):AB w Q (yS t):=AB.mk (sk:=⟨none,0,0⟩) (ZB.fK w) (Kind.Own.nil kT w 0) (fun b a=>by cases a) (fun k c=>by cases c)
theorem Bs(l:uA):er (yS (bs l))=xG l:=by simp[yS,er,yA,xG]
theorem DT(l m:List TV):yA (l++m)=yA l++yA m:=by simp[nC]
section
variable{w wr w':World}{g:Nat}{tag:qA}{A:vA}{n c:Nat}{ats:List P3.At}
end
theorem DP{w wr:World}{tv:TV}{v0 v1 v2 v3 v4:Value}(hz:TB wr w.heap.size tG)(hn:AB wr (fun b=>w.heap.size<b) tv)(hb:fA w wr):
 AB (((((wr.setCell ⟨w.heap.size,0,none⟩ v0).setCell ⟨w.heap.size,1,none⟩ v1).setCell ⟨w.heap.size,2,none⟩ v2).setCell ⟨w.heap.size,3,none⟩ v3).setCell ⟨w.heap.size,4,none⟩ v4) (fun b=>w.heap.size<=b) tv/\
 fA w (((((wr.setCell ⟨w.heap.size,0,none⟩ v0).setCell ⟨w.heap.size,1,none⟩ v1).setCell ⟨w.heap.size,2,none⟩ v2).setCell ⟨w.heap.size,3,none⟩ v3).setCell ⟨w.heap.size,4,none⟩ v4):=by
 have a:iA (fun k=>k=w.heap.size) wr (((((wr.setCell ⟨w.heap.size,0,none⟩ v0).setCell ⟨w.heap.size,1,none⟩ v1).setCell ⟨w.heap.size,2,none⟩ v2).setCell ⟨w.heap.size,3,none⟩ v3).setCell ⟨w.heap.size,4,none⟩ v4):=mA (mA (mA (mA (mA (iA.refl _ _)))));refine⟨(hn.but a (fun b f e=>by omega) (fun b c g e d=>by
  subst e;exact WA d hz pA rfl)).mono fun b _ hb=>Nat.le_of_lt hb,rF hb a⟩
end P10
namespace P19
open Go.RowKit Kd P4 P5 P11 P13 P14 P16
theorem tW{b:qA}(h:b.data.toList.length<=60):b.size<=maxLen:=by
 have:b.size=b.data.toList.length:=rfl;unfold maxLen;omega
theorem fS{b:qA}(h:P1.yC b.data.toList=true):b.size<=maxLen:=by
 unfold P1.yC at h;rw[Bool.and_eq_true,decide_eq_true_eq] at h;exact tW h.1
theorem Lc{b:qA}(h:P1.JC b.data.toList=true):b.size<=maxLen:=by
 refine tW ?_;revert h;generalize b.data.toList=l;intro h;cases l with
 |nil=>simp
 |cons c r=>
  simp only[P1.JC,Bool.and_eq_true,decide_eq_true_eq] at h;simp only[List.length_cons];omega
theorem Mu{b:qA}(h:P1.dC b.data.toList=true):b.size<=maxLen:=by
 refine tW ?_;unfold P1.dC at h;simp only[Bool.or_eq_true,beq_iff_eq] at h;rcases h with((h|h)|h)|h<;>rw[h]<;>decide
theorem mM{k:WV}{l:List WV}(h:k∈l):P14.er k∈yA l:=by rw[nC];exact List.mem_map.2 ⟨k,h,rfl⟩
theorem EJ:(z0:qA).size<=maxLen:=by decide
theorem Aw{x:PW}(h:tC x):x.tag.size<=maxLen/\x.key.size<=maxLen/\x.txt.size<=maxLen:=by
 cases h with
 |el hm _ _=>
  simp only[UB,if_true,Bool.and_eq_true,Bool.not_eq_true'] at hm;exact⟨Lc hm.1.1,fS hm.2,EJ⟩
 |vo hm _=>
  simp[UB] at hm;exact⟨Mu hm.1,fS hm.2,EJ⟩
 |tx hm=>
  simp[UB] at hm;exact⟨EJ,EJ,fS hm.1⟩
 |nd=>exact⟨EJ,EJ,EJ⟩
 |al=>exact⟨EJ,EJ,EJ⟩
end P19
namespace P10
open Go.RowKit Kd P4 P5 P8 P9
theorem iV{w wr:World}{tv:TV}{v0 v1 v2 v3 v4:Value}(hz:TB wr w.heap.size tG)(hn:AB wr (fun b=>w.heap.size<b) tv)(hb:fA w wr):
 AB (((((wr.setCell ⟨w.heap.size,0,none⟩ v0).setCell ⟨w.heap.size,1,none⟩ v1).setCell ⟨w.heap.size,2,none⟩ v2).setCell ⟨w.heap.size,3,none⟩ v3).setCell ⟨w.heap.size,4,none⟩ v4).drew (fun b=>w.heap.size<=b) tv/\
 fA w (((((wr.setCell ⟨w.heap.size,0,none⟩ v0).setCell ⟨w.heap.size,1,none⟩ v1).setCell ⟨w.heap.size,2,none⟩ v2).setCell ⟨w.heap.size,3,none⟩ v3).setCell ⟨w.heap.size,4,none⟩ v4).drew:=
 have h:=DP (v0:=v0) (v1:=v1) (v2:=v2) (v3:=v3) (v4:=v4) hz hn hb
 ⟨h.1.but (iA.drew (iA.refl (fun _=>False) _)) (fun _ _ h=>h) (vC.none _),QC h.2⟩
theorem KV{v:Value}{a b:qA}(h:a=b):Ending.returned (.tuple #[v,bA a])= .returned (.tuple #[v,bA b]):=by rw[h]
theorem Bw(x:qA)(n:Nat):x.extract n x.size=bs (x.data.toList.drop n):=by rw[<-MR,PH]
structure ZI(w W:World)(g:Nat)(tv:TV):Prop where
 z:TB W w.heap.size tG
 tb:TB W g tv
 new:AB W (fun b=>w.heap.size<b) tv
 hb:fA w W
theorem ZI.zf{w W:World}{g:Nat}{tv:TV}(h:ZI w W g tv)(i:Nat):W.frozen? ⟨w.heap.size,i,none⟩=false:=by
 have a:=h.z;simp[World.frozen?,(show W.heap[w.heap.size]? = _ from a)]
theorem RQ{w:World}{s:Nat}{t:TV}(h:TB w s t)(i:Nat):w.frozen? (cA s i)=false:=by
 simp[World.frozen?,(show w.heap[s]? = _ from h)]
theorem lM(s sep:qA)(l m:uA)(w:World)(h:Bd.ML w)(h1:s.data.toList=l)(h2:sep.data.toList=m)(hs:s.size<4294967281):
 jA 185 #[bA s,bA sep] w fun e w'=>e= .returned (.tuple #[bA (bs (Lib.cut l m).1),bA (bs (Lib.cut l m).2.1),.bool (Lib.cut l m).2.2])/\fA w w':=by
 subst h1;subst h2;refine(Bd.Ps s sep w hs h).mono ?_;rintro e w' ⟨rfl,n,rfl⟩;exact⟨rfl,OC Ze n⟩
theorem Oc(l:uA):P2.GM (bs l)=bs (GG l):=by unfold P2.GM GG;rw[sH];rfl
def Ra(w:World)(l:List P3.At)(e:Ending)(w':World):Prop:=∃(A:vA) (n c:Nat),e= .returned (.slice A n c)/\kA.Own w' w.heap.size (.slice A n c) l/\fA w w'
def wW(w:World)(s:qA)(s0 s3:Value)(wr:World):Prop:=∃(x:qA) (A:vA) (n c:Nat) (ats:List P3.At) (f':Nat),s0 = bA x/\s3= .slice A n c/\x.size<f'/\ats.length+x.size<=10000/\
 Hid (UH s.data.toList=UG f' x.data.toList ats)/\Hid (kA.Own wr w.heap.size (.slice A n c) ats)/\Hid (fA w wr)
theorem Tu(s:ByteArray)(w:World)(hs:s.size<=10000)(hm:Bd.ML w):Calls prog 186 #[.string s] w (Ra w (UH s.data.toList)):=by
 have HM:=Zh hm;have ST:Hid (wW w s (.string s) (.slice none 0 0) w):=Zh ⟨s,none,0,0,[],s.size+1,rfl,rfl,by omega,by simpa using hs,Zh (by rw[UH,EG]),Zh (Kind.Own.nil kA w _),Zh Ze⟩;clear hm hs;go_enter func186,ntmps186;go_wp2_with fail;go_loopw [0,3] (fun L s3 wr=>wW w s L s3 wr) (fun L _ _=>match L with| .string x=>x.size|_=>0)
 case atStart=>exact ST.out
 case round=>
  obtain⟨x,A,n,c,a,D,rfl,rfl,hx,a0,HR,M,H⟩:=hrel;have E:=M.out.slice;have a1:a.length=n:=by
   obtain⟨_,_,_,hv,N,_⟩:=E;injection hv with _ hv2 _;rw[N,<-hv2]
  clear E;by_cases h0:0<x.size
  ·obtain⟨I,rfl⟩:∃g,D=g+1:=⟨D-1,by omega⟩;have F:x.data.toList≠[]:=fun e=>by have:=EG x;rw[e] at this;simp at this;omega
   have O:x.toList.isEmpty=false:=P2.toList_cons h0;have MW:=Zh (HM.out.on H.out);have a2:(x.extract 1 x.size).size=x.size-1:=(by rw[ByteArray.size_extract];omega);have k:Hid (UG (I+1) x.data.toList a=UG I (Lib.cut (Lib.cut (x.data.toList.drop 1) [61,34]).2.1 [34]).2.1 (a++[⟨bs (Lib.cut (x.data.toList.drop 1) [61,34]).1,bs (GG (Lib.cut (Lib.cut (x.data.toList.drop 1) [61,34]).2.1 [34]).1),false⟩])):=Zh (by rw[UG,if_neg F]);have y:Hid (Calls prog 185 #[.string (x.extract 1 x.size),.string ⟨#[61,34]⟩] wr fun e w'=>e= .returned (.tuple #[.string (bs (Lib.cut (x.data.toList.drop 1) [61,34]).1),.string (bs (Lib.cut (x.data.toList.drop 1) [61,34]).2.1),.bool (Lib.cut (x.data.toList.drop 1) [61,34]).2.2])/\Below wr.heap.size wr w'):=Zh (lM _ _ _ _ wr MW.out (MR x 1) rfl (by omega));have r:=mI (x.data.toList.drop 1) [61,34];rw[List.length_drop,EG] at r;generalize Lib.cut (x.data.toList.drop 1) [61,34]=p at k y r;obtain⟨p1,f,p3⟩:=p;simp only at k y r;have P:(bs f).size=f.length:=NF f;have t:Hid (∀z,Below wr.heap.size wr z->Calls prog 185 #[.string (bs f),.string ⟨#[34]⟩] z fun e w'=>e= .returned (.tuple #[.string (bs (Lib.cut f [34]).1),.string (bs (Lib.cut f [34]).2.1),.bool (Lib.cut f [34]).2.2])/\Below z.heap.size z w'):=Zh (fun z h=>lM _ _ _ _ z (MW.out.on h) (sH f) rfl (by omega));have o:=mI f [34];generalize Lib.cut f [34]=q at k t o;obtain⟨C,u,q3⟩:=q;simp only at k t o;have Q:(bs C).size=C.length:=NF C;have R:(bs u).size=u.length:=NF u;have J:=Zh (Oc C);have G:Hid ((bs u).data.toList=u):=Zh (sH u);generalize GG C=uq at k J;generalize bs p1=b1 at k y;generalize bs f=b2 at y t P;generalize bs C=c1 at t J Q;generalize bs u=T at t G R;generalize bs uq=bu at k J;have k1:(1:Int)<=(x.size:Int):=(by omega);clear F;go_wp2_with fail;refine y.out.mono ?_;rintro e w1 ⟨rfl,m1⟩;have K:=Zh m1;clear m1 y;go_wp2_with fail;refine(t.out w1 K.out).mono ?_;rintro e w2 ⟨rfl,m2⟩;have U:Hid (Below wr.heap.size wr w2):=Zh (K.out.trans (m2.mono K.out.size));clear m2 t K;go_wp2_with fail;refine(P2.KR c1 w2 (by omega)).mono ?_;rintro e w3 ⟨rfl,m3⟩;rw[J.out];generalize P2.vM c1=ok;have B3:Hid (Below wr.heap.size wr w3):=Zh (U.out.trans (m3.mono U.out.size));clear m3 U;have O3:=Zh (M.out.below B3.out Zl);have B4:=Zh (H.out.trans (B3.out.mono H.out.size));have V:=B4.out.size;go_wp2_with (at_builtin;refine kA.QF rfl _ _ rfl (v:=.slice A n c) (l:=a) (m:=[⟨b1,bu,false⟩]) (B:=w.heap.size) rfl (O3.out.alloc _) rfl rfl (fun e=>by cases e) (Kind.AA.lit (heap_alloc_new _ _) rfl) (by simp;omega) (by simp;omega) ?_;intro v' w5 d j W);obtain⟨A',n',c',rfl,N,e2,e3,e4,e5⟩:=d.slice;have b7:iA (fun b=>(Value.slice A n c).ownBlock=some b) w3 w5:=(iA.alloc (iA.refl _ _) _).trans (iA.WG (S:=fun i=>(Value.slice A n c).ownBlock=some i) j (fun i X _=>X)) (fun _ _ h=>h);have B5:Hid (Below w.heap.size w w5):=Zh (B4.out.trans (b7.eD (fun i _ X=>(O3.out.lt X).1) V));have Y:Hid (wW w s (.string T) (.slice A' n' c') w5):=Zh ⟨T,A',n',c',a++[⟨b1,bu,false⟩],I,rfl,rfl,by omega,by rw[List.length_append];simp only[List.length_cons,List.length_nil];omega,Zh (by rw[HR.out,k.out,G.out]),Zh d,B5⟩;have Z:T.size<x.size:=(by omega);clear b7 d j W N e2 e3 e4 e5;go_wp2_with fail;go_roundw
   case rel=>exact Y.out
   case measure=>exact Z
  ·have hE:x.toList=[]:=P2.toList_nil (by omega);have O:x.toList.isEmpty=true:=(by rw[hE];rfl);have k:Hid (UG D x.data.toList a=a):=Zh (by
    obtain⟨I,rfl⟩:∃g,D=g+1:=⟨D-1,by omega⟩;rw[UG,if_pos (Y7 (by omega))])
   go_wp2_with fail;go_ret;refine⟨A,n,c,rfl,?_,H.out⟩;rw[HR.out,k.out];exact M.out
theorem Uu(s:qA)(w:World)(hs:s.size<=10000)(hm:Bd.ML w):jA 160 #[bA s] w (Ev w (mH s.data.toList)):=by
 have f:Hid (∀g,fA w g->jA 185 #[bA s,bA ⟨#[60]⟩] g fun e w'=>e= .returned (.tuple #[bA (bs (Lib.cut s.data.toList [60]).1),bA (bs (Lib.cut s.data.toList [60]).2.1),.bool (Lib.cut s.data.toList [60]).2.2])/\fA g w'):=Zh (fun g h=>lM _ _ _ _ g (hm.on h) rfl rfl dA);have j:Hid (mH s.data.toList=(xG (GG (Lib.cut s.data.toList [60]).1),s.data.toList.drop (Lib.cut s.data.toList [60]).1.length)):=Zh rfl;have a:=mI s.data.toList [60];rw[EG] at a;generalize Lib.cut s.data.toList [60]=p at f j a;obtain⟨b,F,I⟩:=p;simp only at f j a;have c:(bs b).size=b.length:=NF b;have y:=Zh (Oc b);have z:Hid (s.extract b.length s.size=bs (s.data.toList.drop b.length)):=Zh (Bw s _);generalize bs b=i at f c y;generalize bs F=J at f;obtain⟨k,A⟩:=DA b.length;rw[A] at c z j a;have Z:Hid (TB (w.alloc (.cells #[oA,oA,oA,tA,tA] 81)) w.heap.size tG):=Zh (TB.new w tG);have l:Hid (fA w (w.alloc (.cells #[oA,oA,oA,tA,tA] 81))):=Zh (Zb _ _);clear hm A;go_enter func160,ntmps160;go_upto_region 1 with fail;generalize w.alloc (.cells #[oA,oA,oA,tA,tA] 81)=G at Z l|-;go_wp2_with fail;refine(f G l).mono ?_;rintro e m ⟨rfl,n⟩;have o:Hid (TB m w.heap.size tG):=Zh (Z.below n Z.lt);have q:Hid (fA w m):=Zh (l.trans (n.mono l.size));clear n f Z l;go_wp2_with fail;refine(P2.KR i m dA).mono ?_;rintro e r ⟨rfl,t⟩;rw[y.out];generalize P2.vM i=K;have d:Hid (TB r w.heap.size tG):=Zh (o.below t o.lt);have H:Hid (fA w r):=Zh (q.trans (t.mono q.size));clear t o q;have z0:=d.c0;have B:=d.c1;have C:=d.c2;have D:=d.c3;have E:=d.c4;simp only[TV.tag,TV.txt,TV.key,TV.sa,TV.sk,tG] at z0 B C D E;have L:=RQ d;have u:w.heap.size<r.heap.size:=d.lt;have M:(0:Int)<=(i.size:Int):=dA;have N:(i.size:Int)<=(s.size:Int):=dA;have x:Hid (s.extract i.size s.size=bs (s.data.toList.drop k)):=Zh (by rw[c];exact z);clear c a;go_upto_region 3 with fail;go_region_held3 (fun _=>True) (trivial) (fail);go_wp2_with fail;refine bodyPost_ret (v:=.tuple #[.agg #[oA,bA (bs (GG b)),oA,tA,tA],bA (s.extract i.size s.size)]) (by simp[results,results160,go_sem,z0,B,C,D,E,u]) rfl ⟨yS (bs (GG b)),by rw[j.out];exact KV x,by rw[j.out,Bs],?_,?_⟩
 ·exact k8 _ _ _
 ·exact(iV d (k8 _ ⟨#[]⟩ _) H).2
def VH(f:Nat)(s:uA):List PT×uA:=dD f s []
def mW(f:Nat):Prop:=∀(s:qA) (w:World),s.size<f->s.size<=10000->Bd.ML w->jA 119 #[bA s] w (Gv w (dD f s.data.toList []))
def me(f:Nat):Prop:=∀(s:qA) (w:World),s.size<=f->s.size<=10000->0<s.size->Bd.ML w->jA 159 #[bA s] w (Ev w (BG (VH f) s.data.toList))
theorem ZI.start{w w4:World}{tag:qA}{A:vA}{n c:Nat}{ats:List P3.At}{B:Nat}(z:TB w4 w.heap.size tG)(own:kA.Own w4 B (.slice A n c) ats)(hb:fA w w4):
 ZI w (w4.alloc (.cells #[bA tag,oA,oA,.slice A n c,tA] 81)) w4.heap.size (.mk tag ⟨#[]⟩ ⟨#[]⟩ ⟨A,n,c⟩ ats ⟨none,0,0⟩ []):=by
 obtain⟨s,a,d⟩:=ZB.own (own.alloc (.cells #[bA tag,oA,oA,.slice A n c,tA] 81));have e:s=⟨A,n,c⟩:=by
  obtain⟨g,i,j⟩:=s;unfold Sv.val at a;injection a with e1 e2 e3;subst e1;subst e2;subst e3;rfl
 subst e;exact⟨JB z,TB.new w4 (.mk tag ⟨#[]⟩ ⟨#[]⟩ ⟨A,n,c⟩ ats ⟨none,0,0⟩ []),AB.mk (sk:=⟨none,0,0⟩) d (Kind.Own.nil kT _ 0) (fun b hb=>by cases hb) (fun k f=>by cases f),hb.alloc hb.size _⟩
theorem ZI.below{w W W':World}{g:Nat}{tv:TV}(h:ZI w W g tv)(hb:fA W W'):ZI w W' g tv:=
 ⟨h.z.below hb h.z.lt,h.tb.below hb h.tb.lt,h.new.later hb,h.hb.trans (hb.mono h.hb.size)⟩
theorem ZI.kids{w wr w2:World}{g:Nat}{tag:qA}{A Ak:vA}{n c nk ck:Nat}{ats:List P3.At}{ks:List TV}(h:ZI w wr g (.mk tag ⟨#[]⟩ ⟨#[]⟩ ⟨A,n,c⟩ ats ⟨none,0,0⟩ []))(hgg:w.heap.size<g)(hb:fA wr w2)(own:kT.Own w2 wr.heap.size (.slice Ak nk ck) ks)(new:∀t∈ks,AB w2 (fun b=>wr.heap.size<=b/\(Value.slice Ak nk ck).ownBlock≠some b) t):
 ZI w (w2.setCell (cA g 4) (.slice Ak nk ck)) g (.mk tag ⟨#[]⟩ ⟨#[]⟩ ⟨A,n,c⟩ ats ⟨Ak,nk,ck⟩ ks):=by
 have a:=h.below hb;have l:=h.tb.lt;have m:=h.z.lt;have d:iA (fun b=>b=g) w2 (w2.setCell (cA g 4) (.slice Ak nk ck)):=iA.setCell (S:=fun b=>b=g) (p:=(cA g 4)) (iA.refl _ _) (fun _=>rfl) _;have j:∀b,b=g->∃cur,w2.heap[b]? = some (.cells cur 81 (0,0)):=fun b e=>by subst e;exact⟨_,a.tb⟩
 have o:ZB w2 ⟨A,n,c⟩ ats:=a.new.at_;refine⟨(Below.heap_setCell w2 _ _ _ (by show w.heap.size≠g;omega)).trans a.z,heap_set a.tb 4 _,AB.mk (sk:=⟨Ak,nk,ck⟩) (o.but d (uN j)) ((own.but d (fun b e=>by have:=(own.lt e).1;omega)).dE (Nat.zero_le _)) (fun b e=>by have:=(own.lt e).1;omega) (fun k q=>?_),a.hb.trans (d.eD (fun i _ r=>by omega) a.hb.size)⟩;exact((new k q).but d (fun b f e=>by have:=f.1;omega) (uN j)).mono fun b _ f=>by have:=f.1;omega
theorem Ss(s p:qA)(l m:uA)(w:World)(h1:s.data.toList=l)(h2:p.data.toList=m):
 jA 187 #[bA s,bA p] w fun e w'=>e= .returned (bA (bs (Lib.trimPrefix l m)))/\w=w':=by
 subst h1;subst h2;refine(Bd.Ho s p w).mono ?_;rintro e w' ⟨rfl,rfl⟩;exact⟨rfl,rfl⟩
theorem Jw(f:Nat)(RC:mW f):me f:=by
 intro s w ad hs ae hm;have HR:=Zh RC;have HM:=Zh hm;have a5:(s.extract 1 s.size).size=s.size-1:=(by rw[ByteArray.size_extract];omega);have L:Hid (∀d,fA w d->jA 185 #[bA (s.extract 1 s.size),bA ⟨#[62]⟩] d fun e w'=>e= .returned (.tuple #[bA (bs (Lib.cut (s.data.toList.drop 1) [62]).1),bA (bs (Lib.cut (s.data.toList.drop 1) [62]).2.1),.bool (Lib.cut (s.data.toList.drop 1) [62]).2.2])/\fA d w'):=Zh (fun d h=>lM _ _ _ _ d (HM.on h) (MR s 1) rfl dA);have k:Hid (BG (VH f) s.data.toList=if P1.dC (Lib.cut (Lib.cut (s.data.toList.drop 1) [62]).1 [32]).1 then(rG (Lib.cut (Lib.cut (s.data.toList.drop 1) [62]).1 [32]).1 (UH ((Lib.cut (s.data.toList.drop 1) [62]).1.drop (Lib.cut (Lib.cut (s.data.toList.drop 1) [62]).1 [32]).1.length)) [],(Lib.cut (s.data.toList.drop 1) [62]).2.1)
  else(rG (Lib.cut (Lib.cut (s.data.toList.drop 1) [62]).1 [32]).1 (UH ((Lib.cut (s.data.toList.drop 1) [62]).1.drop (Lib.cut (Lib.cut (s.data.toList.drop 1) [62]).1 [32]).1.length)) (VH f (Lib.cut (s.data.toList.drop 1) [62]).2.1).1,Lib.trimPrefix (VH f (Lib.cut (s.data.toList.drop 1) [62]).2.1).2 (60:: 47:: ((Lib.cut (Lib.cut (s.data.toList.drop 1) [62]).1 [32]).1++[62])))):=Zh rfl
 have u:=mI (s.data.toList.drop 1) [62];rw[List.length_drop,EG] at u;generalize Lib.cut (s.data.toList.drop 1) [62]=p at L k u;obtain⟨j,x,p3⟩:=p;simp only at L k u;have N:(bs j).size=j.length:=NF j;have O:(bs x).size=x.length:=NF x;have C:Hid (∀d,fA w d->jA 185 #[bA (bs j),bA ⟨#[32]⟩] d fun e w'=>e= .returned (.tuple #[bA (bs (Lib.cut j [32]).1),bA (bs (Lib.cut j [32]).2.1),.bool (Lib.cut j [32]).2.2])/\fA d w'):=Zh (fun d h=>lM _ _ _ _ d (HM.on h) (sH j) rfl dA);have l:=mI j [32];generalize Lib.cut j [32]=q at C k l;obtain⟨i,q2,q3⟩:=q;simp only at C k l;have D:(bs i).size=i.length:=NF i;have P:((bs j).extract (bs i).size (bs j).size).size<=10000:=(by rw[ByteArray.size_extract];omega);have Q:Hid (∀d,fA w d->jA 186 #[bA ((bs j).extract (bs i).size (bs j).size)] d (Ra d (UH (j.drop i.length)))):=Zh (fun d h=>by
  have:=Tu ((bs j).extract (bs i).size (bs j).size) d P (HM.on h);rw[MR,sH,D] at this;exact this)
 have C4:Hid (∀d,fA w d->jA 119 #[bA (bs x)] d (Gv d (VH f x))):=Zh (fun d h=>by
  have:=HR (bs x) d dA dA (HM.on h);rw[sH] at this;exact this)
 have HQ:Hid ((bs i).data.toList=i):=Zh (sH i);have a6:Hid (bs i=bs i):=Zh rfl;have a7:i.length<=10000:=dA;generalize UH (j.drop i.length)=z at Q k;obtain⟨tag,m⟩:=DA (bs i);rw[m] at C Q HQ D;have R:=Zh m;generalize bs j=b1 at L C Q N;obtain⟨b2,E⟩:=DA (bs x);rw[E] at L C4 O;have a8:=Zh E;generalize bs q2=c2 at C;have Z:Hid (TB (w.alloc (.cells #[oA,oA,oA,tA,tA] 81)) w.heap.size tG):=Zh (TB.new w tG);have S:Hid (fA w (w.alloc (.cells #[oA,oA,oA,tA,tA] 81))):=Zh (Zb _ _);have k1:(1:Int)<=(s.size:Int):=dA;have j0:(0:Int)<=(tag.size:Int):=dA;have j1:(tag.size:Int)<=(b1.size:Int):=dA;have af:tag.size<=10000:=dA;clear hm RC P m E a5 HR N O D u l a7 a6;go_enter func159,ntmps159;go_upto_region 1 with fail;generalize w.alloc (.cells #[oA,oA,oA,tA,tA] 81)=W0 at Z S|-;go_wp2_with fail;refine(L W0 S).mono ?_;rintro e w1 ⟨rfl,m1⟩;have Z1:Hid (TB w1 w.heap.size tG):=Zh (Z.below m1 Z.lt);have B1:Hid (fA w w1):=Zh (S.trans (m1.mono S.size));clear m1 L Z S;go_wp2_with fail;refine(C w1 B1).mono ?_;rintro e w2 ⟨rfl,m2⟩;have Z2:Hid (TB w2 w.heap.size tG):=Zh (Z1.below m2 Z1.lt);have B2:Hid (fA w w2):=Zh (B1.trans (m2.mono B1.size));clear m2 C Z1 B1;go_wp2_with fail;refine(Q w2 B2).mono ?_;rintro e T ⟨A,n,c,rfl,o,m3⟩;have Z3:Hid (TB T w.heap.size tG):=Zh (Z2.below m3 Z2.lt);have B3:Hid (fA w T):=Zh (B2.trans (m3.mono B2.size));have F:=Zh (ZI.start (tag:=tag) Z3 o B3);have U:w.heap.size<T.heap.size:=Z3.lt;clear o m3 Q Z2 B2;go_upto_region 4 with fail;generalize a9:T.heap.size=g at F U|-;generalize T.alloc (.cells #[bA tag,oA,oA,.slice A n c,tA] 81)=W at F|-;clear a9 Z3 B3;obtain⟨bv,G⟩:=DA (P1.dC i);have HV:Hid (P1.dC tag.data.toList=bv):=Zh (by rw[HQ.out];exact G);rw[G] at k;clear G;go_wp2_with fail;refine PA (P1.eN tag W) ?_;rw[HV.out];cases bv with
 |true=>
  have t:Hid (BG (VH f) s.data.toList=(rG i z [],x)):=Zh k.out;have a:=F;have z0:=a.z.c0;have V:=a.z.c1;have X:=a.z.c2;have Y:=a.z.c3;have z4:=a.z.c4;have t0:=a.tb.c0;have t1:=a.tb.c1;have t2:=a.tb.c2;have t3:=a.tb.c3;have M:=a.tb.c4;simp only[TV.tag,TV.txt,TV.key,TV.sa,TV.sk,tG] at z0 V X Y z4 t0 t1 t2 t3 M;have zf:=a.zf;have H:w.heap.size<W.heap.size:=a.z.lt;go_wp2_with fail;refine bodyPost_ret (v:=.tuple #[.agg #[bA tag,oA,oA,.slice A n c,tA],bA b2]) (by simp[results,results159,go_sem,z0,V,X,Y,z4,H]) rfl ⟨.mk tag ⟨#[]⟩ ⟨#[]⟩ ⟨A,n,c⟩ z ⟨none,0,0⟩ [],by rw[t.out];exact KV a8.symm,by rw[t.out,er,yA,rG,R.out],?_,?_⟩
  ·exact(DP a.z a.new a.hb).1
  ·exact(DP a.z a.new a.hb).2
 |false=>
  have CG:=Zh (C4 W F.hb);generalize VH f x=r at CG k;obtain⟨r1,I⟩:=r;simp only at k;go_wp2_with fail;refine CG.mono ?_;rintro e w4 ⟨Ak,nk,ck,ks,rfl,a0,o,a1,m4⟩;have a:=Zh (F.kids U m4 o a1);have K4:=Zh (F.below m4);have M:=K4.tb.c4;simp only[TV.sk] at M;have gf:=RQ K4.tb;have aa:Hid (yA ks=r1):=Zh a0;have a2:Hid ((bs I).data.toList=I):=Zh (sH I);simp only;generalize bs I=rp at a2;clear a0 o a1 m4 CG C4;go_upto_region 7 with fail;generalize w4.setCell (cA g 4) (.slice Ak nk ck)=W3 at a|-;have a3:g≠w.heap.size:=dA;have a4:w.heap.size≠g:=dA;clear M gf K4 F;obtain⟨y1,B⟩:=DA ((⟨#[60,47]⟩:qA)++tag);have ac:y1.size<=10002:=(by rw[<-B,ByteArray.size_append];show 2+_<=_;omega);obtain⟨y2,J⟩:=DA (y1++(⟨#[62]⟩:qA));have s1:∀W:World,(Op.stringOp .add ⟨#[60,47]⟩ tag).run prog W= .ok (bA y1) W:=fun W=>B▸run_string_add_sum W _ _ (by show 2+_<=_;omega)
  have s2:∀W:World,(Op.stringOp .add y1 ⟨#[62]⟩).run prog W= .ok (bA y2) W:=fun W=>J▸run_string_add_sum W _ _ (by show _+1<=_;omega)
  have HY:Hid (y2.data.toList=60:: 47:: (i++[62])):=Zh (by rw[<-J,<-B];simp[HQ.out]);have CT:Hid (∀d,jA 187 #[bA rp,bA y2] d fun e w'=>e= .returned (bA (bs (Lib.trimPrefix I (60:: 47:: (i++[62])))))/\d=w'):=Zh (fun d=>Ss _ _ _ _ d a2 HY);have t:Hid (BG (VH f) s.data.toList=(rG i z (yA ks),Lib.trimPrefix I (60:: 47:: (i++[62])))):=Zh (by rw[aa.out];exact k);obtain⟨tr,K⟩:=DA (bs (Lib.trimPrefix I (60:: 47:: (i++[62]))));rw[K] at CT;have ab:=Zh K;clear B J K k;have z0:=a.z.c0;have V:=a.z.c1;have X:=a.z.c2;have Y:=a.z.c3;have z4:=a.z.c4;have t0:=a.tb.c0;have t1:=a.tb.c1;have t2:=a.tb.c2;have t3:=a.tb.c3;have M:=a.tb.c4;simp only[TV.tag,TV.txt,TV.key,TV.sa,TV.sk,tG] at z0 V X Y z4 t0 t1 t2 t3 M;have zf:=a.zf;have H:w.heap.size<W3.heap.size:=a.z.lt;go_region_held3 (fun w'=>w'.cell? (cA g 0)=some (bA tag)/\w'.cell? (cA g 1)=some (oA)/\w'.cell? (cA g 2)=some (oA)/\w'.cell? (cA g 3)=some (.slice A n c)/\w'.cell? (cA g 4)=some (.slice Ak nk ck)) (first|go_keep|(simp[World.cell?_setCell_other,a3,a4, *];done)) ((first
   |(go_at_call 187;refine PA (CT _) ?_)
   |fail))
  all_goals (go_wp2_with fail)
  all_goals (refine bodyPost_ret (v:=.tuple #[.agg #[bA tag,oA,oA,.slice A n c,.slice Ak nk ck],bA tr]) (by simp[results,results159,go_sem,z0,V,X,Y,z4,H]) rfl ⟨.mk tag ⟨#[]⟩ ⟨#[]⟩ ⟨A,n,c⟩ z ⟨Ak,nk,ck⟩ ks,by rw[t.out];exact KV ab.symm,by rw[t.out,er,rG,R.out],?_,?_⟩)
  all_goals first
   |exact(DP a.z a.new a.hb).1
   |exact(DP a.z a.new a.hb).2
   |exact(iV a.z a.new a.hb).1
   |exact(iV a.z a.new a.hb).2
theorem so{a b:qA}(h:a.data.toList≠b.data.toList):(a.toList==b.toList)=false:=by
 rw[ByteArray.toList_eq,ByteArray.toList_eq];simpa using h
theorem uo{a b:qA}(h:a.data.toList=b.data.toList):(a.toList==b.toList)=true:=by
 rw[ByteArray.toList_eq,ByteArray.toList_eq,h];simp
theorem Nu{w:World}{D:Nat}{A:vA}{n c:Nat}{ts:List TV}(h:kT.Own w D (.slice A n c) ts):ts.length=n/\n<=c/\c<=maxLen/\(A=none->c=0)/\kT.AA w w.heap.size A ts:=by
 obtain⟨i,j,k,a,b,d,e,f,g⟩:=h.slice;injection a with h1 h2 h3;subst h1;subst h2;subst h3;exact⟨b,d,e,f,g⟩
def cQ(w:World)(f:Nat)(s:qA)(s0 s4:Value)(wr:World):Prop:=∃(x:qA) (A:vA) (n c:Nat) (ts:List TV) (f':Nat),s0 = bA x/\s4= .slice A n c/\x.size<f'/\f'<=f/\ts.length+x.size<=10000/\
 Hid (dD f s.data.toList []=dD f' x.data.toList (yA ts))/\Hid (kT.Own wr w.heap.size (.slice A n c) ts)/\Hid (∀t∈ts,AB wr (fun b=>w.heap.size<=b/\(Value.slice A n c).ownBlock≠some b) t)/\Hid (fA w wr)
theorem Vu(x:qA){b:Bool}(h:Lib.hasPrefix x.data.toList [60,47]=b)(w:World):jA 158 #[bA x,bA ⟨#[60,47]⟩] w fun e w'=>e= .returned (.bool b)/\w=w':=by
 subst h;refine(Bd.uY x ⟨#[60,47]⟩ w).mono ?_;rintro e w' ⟨rfl,rfl⟩;exact⟨rfl,rfl⟩
theorem Fb{w wa w5:World}{f f2:Nat}{s rp:qA}{A A':vA}{n c n' c':Nat}{ts:List TV}{tv:TV}{o:Obj}(HG:dD f s.data.toList []=dD f2 rp.data.toList (yA ts++[er tv]))
 (O:kT.Own wa w.heap.size (.slice A n c) ts) (T:∀t∈ts,AB wa (fun b=>w.heap.size<=b/\(Value.slice A n c).ownBlock≠some b) t) (V:AB wa (fun b=>w.heap.size<=b/\(Value.slice A n c).ownBlock≠some b) tv) (hb:fA w wa)
 (hown:kT.Own w5 w.heap.size (.slice A' n' c') (ts++[tv])) (hg:(wa.alloc o).grownBy w5 (Value.slice A n c).ownBlock) (hat:(Value.slice A' n' c').ownBlock=(Value.slice A n c).ownBlock\/(Value.slice A' n' c').ownBlock=some (wa.alloc o).heap.size)
 (h1:rp.size<f2) (h2:f2<=f) (h3:ts.length+1+rp.size<=10000):cQ w f s (bA rp) (.slice A' n' c') w5:=by
 have a:=Oj O T V hg hat;refine⟨rp,A',n',c',ts++[tv],f2,rfl,rfl,h1,h2,by rw[List.length_append];simp only[List.length_cons,List.length_nil];omega,Zh (by rw[HG,DT];simp[yA]),Zh hown,Zh a.1,Zh (hb.trans (a.2.eD (fun i _ d=>(O.lt d).1) hb.size))⟩
theorem Pc{w wr w1:World}{v:Nat}{A:vA}{n c:Nat}{ts:List TV}{tv:TV}(hv:wr.heap.size=v)(hb:fA w wr)(b1:fA wr w1)(z:TB w1 v tG)(O:kT.Own wr w.heap.size (.slice A n c) ts)
 (T:∀t∈ts,AB wr (fun b=>w.heap.size<=b/\(Value.slice A n c).ownBlock≠some b) t) (V:AB w1 (fun b=>v<b) tv):
 TB (((((w1.setCell (cA v 0) (bA tv.tag)).setCell (cA v 1) (bA tv.txt)).setCell (cA v 2) (bA tv.key)).setCell (cA v 3) (.slice tv.sa.A tv.sa.n tv.sa.c)).setCell (cA v 4) (.slice tv.sk.A tv.sk.n tv.sk.c)) v tv/\
 kT.Own (((((w1.setCell (cA v 0) (bA tv.tag)).setCell (cA v 1) (bA tv.txt)).setCell (cA v 2) (bA tv.key)).setCell (cA v 3) (.slice tv.sa.A tv.sa.n tv.sa.c)).setCell (cA v 4) (.slice tv.sk.A tv.sk.n tv.sk.c)) w.heap.size (.slice A n c) ts/\
 (∀t∈ts,AB (((((w1.setCell (cA v 0) (bA tv.tag)).setCell (cA v 1) (bA tv.txt)).setCell (cA v 2) (bA tv.key)).setCell (cA v 3) (.slice tv.sa.A tv.sa.n tv.sa.c)).setCell (cA v 4) (.slice tv.sk.A tv.sk.n tv.sk.c)) (fun b=>w.heap.size<=b/\(Value.slice A n c).ownBlock≠some b) t)/\
 AB (((((w1.setCell (cA v 0) (bA tv.tag)).setCell (cA v 1) (bA tv.txt)).setCell (cA v 2) (bA tv.key)).setCell (cA v 3) (.slice tv.sa.A tv.sa.n tv.sa.c)).setCell (cA v 4) (.slice tv.sk.A tv.sk.n tv.sk.c)) (fun b=>w.heap.size<=b/\(Value.slice A n c).ownBlock≠some b) tv/\
 fA w (((((w1.setCell (cA v 0) (bA tv.tag)).setCell (cA v 1) (bA tv.txt)).setCell (cA v 2) (bA tv.key)).setCell (cA v 3) (.slice tv.sa.A tv.sa.n tv.sa.c)).setCell (cA v 4) (.slice tv.sk.A tv.sk.n tv.sk.c)):=by
 have j:=hb.size;have a:iA (fun k=>k=v) w1 (((((w1.setCell (cA v 0) (bA tv.tag)).setCell (cA v 1) (bA tv.txt)).setCell (cA v 2) (bA tv.key)).setCell (cA v 3) (.slice tv.sa.A tv.sa.n tv.sa.c)).setCell (cA v 4) (.slice tv.sk.A tv.sk.n tv.sk.c)):=mA (mA (mA (mA (mA (iA.refl _ _)))));have f:vC w1 (fun b=>b=v):=uN (fun b e=>by subst e;exact⟨_,z⟩);have l:kT.Own w1 w.heap.size (.slice A n c) ts:=O.below b1 Zl;refine⟨heap_set (heap_set (heap_set (heap_set (heap_set z 0 _) 1 _) 2 _) 3 _) 4 _,l.but a (fun g m e=>by have:=(O.lt m).2;omega),fun t o=>?_,?_,?_⟩
 ·have p:AB wr (fun b=>(w.heap.size<=b/\(Value.slice A n c).ownBlock≠some b)/\b<v) t:=(T t o).mono fun b hb d=>⟨d,by omega⟩
  exact((p.later b1).but a (fun b d e=>by have:=d.2;omega) f).mono fun b _ d=>d.1
 ·refine(V.but a (fun b d e=>by omega) f).mono fun b _ d=>⟨by omega,fun e=>?_⟩
  have:=(O.lt e).2;omega
 ·exact(hb.trans (b1.mono j)).trans (a.eD (fun i _ e=>by omega) (IA b1.size))
theorem Ts(f:Nat)(EL:∀f',f'<f->me f'):mW f:=by
 intro s w ab hs hm;have HE:=Zh EL;have HM:=Zh hm;have ST:Hid (cQ w f s (.string s) (.slice none 0 0) w):=Zh ⟨s,none,0,0,[],f,rfl,rfl,ab,Zl,by simpa using hs,Zh rfl,Zh (Kind.Own.nil kT w _),Zh (fun t ht=>by cases ht),Zh Ze⟩;clear EL ab hs hm;go_enter func119,ntmps119;go_wp2_with fail;go_loopw [0,4] (fun s0 s4 wr=>cQ w f s s0 s4 wr) (fun s0 _ _=>match s0 with| .string x=>x.size|_=>0)
 case atStart=>exact ST.out
 case round=>
  obtain⟨x,A,n,c,D,f',rfl,rfl,hx,ag,ah,HG,HO,HT,HB⟩:=hrel;have y:=HO.out.slice;have ai:D.length=n:=by
   obtain⟨_,_,_,S,e1,_⟩:=y;injection S with _ hv2 _;rw[e1,<-hv2]
  clear y;obtain⟨E,rfl⟩:∃g,f'=g+1:=⟨f'-1,by omega⟩;by_cases h0:0<x.size
  ·have F:x.data.toList≠[]:=fun e=>by have:=EG x;rw[e] at this;simp at this;omega
   have ac:x.toList.isEmpty=false:=P2.toList_cons h0;have I:=MN h0;have MW:=Zh (HM.out.on HB.out);obtain⟨bp,G⟩:=DA (Lib.hasPrefix x.data.toList [60,47]);have CP:Hid (∀u,Calls prog 158 #[.string x,.string ⟨#[60,47]⟩] u fun e w'=>e= .returned (.bool bp)/\u=w'):=Zh (fun u=>Vu x G u);cases bp with
   |true=>
    have J:Hid (dD (E+1) x.data.toList (yA D)=(yA D,x.data.toList)):=Zh (by rw[dD,if_pos (.inr G)]);clear F I G;go_wp2_with fail;refine(CP.out _).mono ?_;rintro e w' ⟨rfl,rfl⟩;go_wp2_with fail;go_ret2;refine⟨A,n,c,D,?_,?_,HO.out,HT.out,HB.out⟩
    ·rw[HG.out,J.out,PH];rfl
    ·rw[HG.out,J.out]
   |false=>
    have y:¬(x.data.toList=[]\/Lib.hasPrefix x.data.toList [60,47]=true):=by
     rintro(h|h)
     ·exact F h
     ·rw[G] at h;cases h
    have Z:Hid (TB (wr.alloc (.cells #[.string ⟨#[]⟩,.string ⟨#[]⟩,.string ⟨#[]⟩,.slice none 0 0,.slice none 0 0] 81)) wr.heap.size tG):=Zh (TB.new wr tG);have Q:Hid (Below wr.heap.size wr (wr.alloc (.cells #[.string ⟨#[]⟩,.string ⟨#[]⟩,.string ⟨#[]⟩,.slice none 0 0,.slice none 0 0] 81))):=Zh (Zb _ _);have aj:=HB.out.size;by_cases R:x[0]=60
    ·have ad:((x[0].toNat:Int)==60)=true:=(by rw[R];rfl);have K:=Ad (g:=VH E) F (fun r=>by have:=TP E r [];simp only[wL] at this;unfold VH;omega);have T:Hid (∀u,Below wr.heap.size wr u->Calls prog 159 #[.string x] u (Ev u (BG (VH E) x.data.toList))):=Zh (fun u h=>HE.out E (by omega) x u (by omega) (by omega) h0 (MW.out.on h));have J:Hid (dD (E+1) x.data.toList (yA D)=dD E (BG (VH E) x.data.toList).2 (yA D++[(BG (VH E) x.data.toList).1])):=Zh (by
      rw[dD,if_neg y,if_pos (by rw[I,R])];rfl)
     generalize BG (VH E) x.data.toList=p at K T J;obtain⟨p1,j⟩:=p;obtain⟨_,k⟩:=K;have k:j.length<x.size:=(by rwa[EG] at k);have L:Hid ((bs j).data.toList=j):=Zh (sH j);have z:(bs j).size=j.length:=NF j;clear F I G y;go_wp2_with fail;refine(CP.out _).mono ?_;rintro e w' ⟨rfl,rfl⟩;go_upto_region 4 with fail;generalize wr.alloc (.cells #[.string ⟨#[]⟩,.string ⟨#[]⟩,.string ⟨#[]⟩,.slice none 0 0,.slice none 0 0] 81)=W0 at Z Q|-;generalize S:wr.heap.size=v at Z|-;have HV:=Zh S;have ae:v<W0.heap.size:=Z.out.lt;clear S;go_wp2_with fail;refine(T.out W0 Q.out).mono ?_;rintro e w1 ⟨d,rfl,M,o,U⟩;have q:Hid (TB w1 v tG):=Zh (Z.out.below U Z.out.lt);have C:=Zh (Pc HV.out HB.out (Q.out.trans (U.mono Q.out.size)) q.out HO.out HT.out (o.mono fun b _ hb=>by omega));have V:Hid (er d=p1):=Zh M;have y0:=q.out.c0;have y1:=q.out.c1;have y2:=q.out.c2;have y3:=q.out.c3;have y4:=q.out.c4;simp only[TV.tag,TV.txt,TV.key,TV.sa,TV.sk,tG] at y0 y1 y2 y3 y4;have yf:=RQ q.out;simp only;generalize N:bs j=rp at L z;have X:=Zh z;clear M o U N Z Q T z;go_upto_region 7 with fail;generalize (((((w1.setCell ⟨v,0,none⟩ (.string d.tag)).setCell ⟨v,1,none⟩ (.string d.txt)).setCell ⟨v,2,none⟩ (.string d.key)).setCell ⟨v,3,none⟩ (.slice d.sa.A d.sa.n d.sa.c)).setCell ⟨v,4,none⟩ (.slice d.sk.A d.sk.n d.sk.c))=W at C|-;obtain⟨H,O2,T2,V2,Y⟩:=C.out;have a0:=H.c0;have a1:=H.c1;have a2:=H.c2;have a3:=H.c3;have a4:=H.c4;have O:=Zh O2;have a5:=Zh T2;have a6:=Zh V2;have a7:=Zh Y;have af:=Y.size;clear y0 y1 y2 y3 y4 yf q H O2 T2 V2 Y C;go_wp2_with (at_builtin;refine kT.QF rfl _ _ rfl (v:=.slice A n c) (l:=D) (m:=[d]) (B:=w.heap.size) rfl (O.out.alloc _) rfl rfl (fun e=>by cases e) (Kind.AA.lit (heap_alloc_new _ _) rfl) (by simp;omega) (by simp;omega) ?_;intro v' w5 a i P);obtain⟨A',n',c',rfl,e1,e2,e3,e4,e5⟩:=a.slice;have a8:rp.size<x.size:=(by have:=X.out;omega);have a9:Hid (cQ w f s (.string rp) (.slice A' n' c') w5):=Zh (Fb (by rw[HG.out,J.out,L.out,V.out]) O.out a5.out a6.out a7.out a i P (by omega) (by omega) (by omega));clear a i P e1 e2 e3 e4 e5 a0 a1 a2 a3 a4;go_wp2_with fail;go_roundw
     case rel=>exact a9.out
     case measure=>exact a8
    ·have ad:((x[0].toNat:Int)==60)=false:=P2.BP R;have aa:x.data.toList.head?≠some 60:=(by rw[I];intro e;injection e with e;exact R e);have K:=Cd F aa;have T:Hid (∀u,Below wr.heap.size wr u->Calls prog 160 #[.string x] u (Ev u (mH x.data.toList))):=Zh (fun u h=>Uu x u (by omega) (MW.out.on h));have J:Hid (dD (E+1) x.data.toList (yA D)=dD E (mH x.data.toList).2 (yA D++[(mH x.data.toList).1])):=Zh (by rw[dD,if_neg y,if_neg aa]);clear aa;generalize mH x.data.toList=p at K T J;obtain⟨p1,j⟩:=p;obtain⟨_,k⟩:=K;have k:j.length<x.size:=(by rwa[EG] at k);have L:Hid ((bs j).data.toList=j):=Zh (sH j);have z:(bs j).size=j.length:=NF j;clear F I G y;go_wp2_with fail;refine(CP.out _).mono ?_;rintro e w' ⟨rfl,rfl⟩;go_upto_region 4 with fail;generalize wr.alloc (.cells #[.string ⟨#[]⟩,.string ⟨#[]⟩,.string ⟨#[]⟩,.slice none 0 0,.slice none 0 0] 81)=W0 at Z Q|-;generalize S:wr.heap.size=v at Z|-;have HV:=Zh S;have ae:v<W0.heap.size:=Z.out.lt;clear S;go_wp2_with fail;refine(T.out W0 Q.out).mono ?_;rintro e w1 ⟨d,rfl,M,o,U⟩;have q:Hid (TB w1 v tG):=Zh (Z.out.below U Z.out.lt);have C:=Zh (Pc HV.out HB.out (Q.out.trans (U.mono Q.out.size)) q.out HO.out HT.out (o.mono fun b _ hb=>by omega));have V:Hid (er d=p1):=Zh M;have y0:=q.out.c0;have y1:=q.out.c1;have y2:=q.out.c2;have y3:=q.out.c3;have y4:=q.out.c4;simp only[TV.tag,TV.txt,TV.key,TV.sa,TV.sk,tG] at y0 y1 y2 y3 y4;have yf:=RQ q.out;simp only;generalize N:bs j=rp at L z;have X:=Zh z;clear M o U N Z Q T z;go_upto_region 7 with fail;generalize (((((w1.setCell ⟨v,0,none⟩ (.string d.tag)).setCell ⟨v,1,none⟩ (.string d.txt)).setCell ⟨v,2,none⟩ (.string d.key)).setCell ⟨v,3,none⟩ (.slice d.sa.A d.sa.n d.sa.c)).setCell ⟨v,4,none⟩ (.slice d.sk.A d.sk.n d.sk.c))=W at C|-;obtain⟨H,O2,T2,V2,Y⟩:=C.out;have a0:=H.c0;have a1:=H.c1;have a2:=H.c2;have a3:=H.c3;have a4:=H.c4;have O:=Zh O2;have a5:=Zh T2;have a6:=Zh V2;have a7:=Zh Y;have af:=Y.size;clear y0 y1 y2 y3 y4 yf q H O2 T2 V2 Y C;go_wp2_with (at_builtin;refine kT.QF rfl _ _ rfl (v:=.slice A n c) (l:=D) (m:=[d]) (B:=w.heap.size) rfl (O.out.alloc _) rfl rfl (fun e=>by cases e) (Kind.AA.lit (heap_alloc_new _ _) rfl) (by simp;omega) (by simp;omega) ?_;intro v' w5 a i P);obtain⟨A',n',c',rfl,e1,e2,e3,e4,e5⟩:=a.slice;have a8:rp.size<x.size:=(by have:=X.out;omega);have a9:Hid (cQ w f s (.string rp) (.slice A' n' c') w5):=Zh (Fb (by rw[HG.out,J.out,L.out,V.out]) O.out a5.out a6.out a7.out a i P (by omega) (by omega) (by omega));clear a i P e1 e2 e3 e4 e5 a0 a1 a2 a3 a4;go_wp2_with fail;go_roundw
     case rel=>exact a9.out
     case measure=>exact a8
  ·have hE:x.toList=[]:=P2.toList_nil (by omega);have ac:x.toList.isEmpty=true:=(by rw[hE];rfl);have J:Hid (dD (E+1) x.data.toList (yA D)=(yA D,x.data.toList)):=Zh (by rw[dD,if_pos (.inl (Y7 (by omega)))]);go_wp2_with fail;go_ret2;refine⟨A,n,c,D,?_,?_,HO.out,HT.out,HB.out⟩
   ·rw[HG.out,J.out,PH];rfl
   ·rw[HG.out,J.out]
end P10
end Go.Proofs.YtimfajmknmlajaaGreatDoor
