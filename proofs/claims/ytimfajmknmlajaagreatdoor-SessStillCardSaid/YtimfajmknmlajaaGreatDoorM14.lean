/- A part of the proof. No condition. -/
import Derived.Deep.LoopGhost
import Derived.Deep.RegionHeld3
import Derived.Deep.DeepCutAuto
import Derived.Deep.CutBlock
import Derived.Lib.IndexLaws
import Derived.Lib.IndexMore
import Derived.Test.YtimfajmknmlajaaGreatDoorM1
import Derived.Test.YtimfajmknmlajaaGreatDoorM3
import Derived.Test.YtimfajmknmlajaaGreatDoorM4
import Derived.Test.YtimfajmknmlajaaGreatDoorM6
import Derived.Test.YtimfajmknmlajaaGreatDoorM8
import Derived.Test.YtimfajmknmlajaaGreatDoorM9
import Derived.Test.YtimfajmknmlajaaGreatDoorM10
set_option linter.unusedVariables false
set_option linter.unusedSimpArgs false
set_option maxRecDepth 100000
set_option maxHeartbeats 40000000
namespace Go.Proofs.YtimfajmknmlajaaGreatDoor
open Go.Proofs.Tryz
namespace P16
open Go.RowKit Kd P4 P5 P11 P12 P13 P14 Mv
theorem cT(t k:qA)(w:World):jA 228 #[.agg #[bA t,bA k]] w fun e w'=>e= .returned (.bool (!t.toList.isEmpty))/\fA w w':=by
 have c:Hid (fA w (w.alloc (.cells #[bA t,bA k] 289))):=Zh (Zb _ _);have d:Hid ((w.alloc (.cells #[bA t,bA k] 289)).heap[w.heap.size]? = some (.cells #[bA t,bA k] 289 (0,0))):=Zh (heap_alloc_new w _);go_enter func228,ntmps228;go_upto_region 1 with fail;generalize w.alloc (.cells #[bA t,bA k] 289)=W at c d|-;have g:=iB 0 d;obtain⟨f,a⟩:=DA t.toList.isEmpty;cases f
 all_goals
  go_wp2_with fail;go_ret;exact⟨by first|rfl|simp[a],c⟩
theorem DY{w:World}{p m n s:Nat}{f:Lit->Option Value}(hc:w.cell? (cA p 3)=some (.map (some m)))(hp:p<w.heap.size)(hm:zC prog 289 w m n s f)(t k:qA)(ht:t.size<=maxLen)(hk:k.size<=maxLen)(a:Int)(ha:MM (f (jD t k)) a):
 jA 229 #[lA p,.agg #[bA t,bA k]] w fun e w'=>e= .returned (aA a)/\fA w w':=by
 have j:=Zh hc;have l:=Zh hp;have b:=Zh (VP ht hk);have c:Hid (fA w (w.alloc (.cells #[bA t,bA k] 289))):=Zh (Zb _ _);have d:Hid ((w.alloc (.cells #[bA t,bA k] 289)).heap[w.heap.size]? = some (.cells #[bA t,bA k] 289 (0,0))):=Zh (heap_alloc_new w _);have g:=Zh (hm.alloc (.cells #[bA t,bA k] 289));clear hm hc hp;go_enter func229,ntmps229;go_upto_region 1 with fail;have o:=(c.cell (p:=(cA p 3)) l).trans j;generalize w.alloc (.cells #[bA t,bA k] 289)=W at c d g o|-;have q:=iB 0 d;have r:=iB 1 d;rcases ha with⟨hn,rfl⟩|hs
 ·have i:=(g.kept (w':=W.drew) rfl).look_ok (Maps.Keyed.of_law eQ) underlying311 (Mb _) b;rw[hn] at i;go_region_held3 (fun w'=>w'.cell? (cA p 3)=some (.map (some m))/\w'.cell? ⟨w.heap.size,0,none⟩=some (bA t)/\w'.cell? ⟨w.heap.size,1,none⟩=some (bA k)) (go_keep) (fail);go_wp2_with fail;go_ret;exact⟨rfl,OC c _⟩
 ·have i:=(g.kept (w':=W.drew) rfl).look_ok (Maps.Keyed.of_law eQ) underlying311 (Mb _) b;rw[hs] at i;go_region_held3 (fun w'=>w'.cell? (cA p 3)=some (.map (some m))/\w'.cell? ⟨w.heap.size,0,none⟩=some (bA t)/\w'.cell? ⟨w.heap.size,1,none⟩=some (bA k)) (go_keep) (fail);go_wp2_with fail;go_ret;exact⟨rfl,OC c _⟩
theorem Vf{w:World}{B p g h m:Nat}{A:vA}{n c:Nat}{old:List Ol}{left:List Bool}{F s:Nat}{f:Lit->Option Value}{nl:List Int}(x:Lf w B p g h m A n c old left F s f nl)(t k:qA)(ht:t.size<=maxLen)(hk:k.size<=maxLen)(a:Int)(ha:MM (f (jD t k)) a):
 jA 229 #[lA p,.agg #[bA t,bA k]] w fun e w'=>e= .returned (aA a)/\fA w w':=DY x.c3 x.GJ x.map t k ht hk a ha
def te(left:List Bool)(n F:Nat)(a:Int):Prop:=(F=n/\a = -1)\/(F<n/\a=(F:Int)/\left[F]? = some true)
theorem gI{w:World}{B p g h m:Nat}{A:vA}{n c:Nat}{old:List Ol}{left:List Bool}{F s:Nat}{f:Lit->Option Value}{nl:List Int}(x:Lf w B p g h m A n c old left F s f nl):
 jA 235 #[lA p] w fun e w'=>∃(F':Nat) (a:Int),e= .returned (aA a)/\te left n F' a/\F<=F'/\Lf w' B p g h m A n c old left F' s f nl/\iA (fun k=>k=p) w w':=by
 have r:=Zh x;have v:=x.small;have l:F<=n:=x.front;clear x;go_enter func235,ntmps235;go_wp2_with fail
 go_loopg [] (n-F) (fun q wr=>∃F':Nat,q=n-F'/\F<=F'/\F'<=n/\Hid (Lf wr B p g h m A n c old left F' s f nl)/\Hid (iA (fun k=>k=p) w wr))
 case atStart=>exact⟨F,rfl,Zl,l,r,Zh (iA.refl _ _)⟩
 case round=>
  obtain⟨F',rfl,t,z,d,o⟩:=hrel;clear r;have C:=d.c0;have D:=d.c1;have E:=d.c2;by_cases i:F'<n
  ·obtain⟨b,u,G,H⟩:=d.taken i;have j:=Zh u;clear u;cases b with
   |true=>
    go_upto_region 1 with fail;go_quiet (fail);go_upto_region 3 with fail;go_quiet (fail);go_wp2_with fail;go_ret;exact⟨F',_,rfl,.inr ⟨i,rfl,j⟩,t,d.drewN _,o.drewN _⟩
   |false=>
    have y:=d.fz 2;go_upto_region 1 with fail;go_quiet (fail);go_wp2_with fail
    go_roundg (n-(F'+1))
    case measure=>omega
    case rel=>exact⟨F'+1,rfl,by omega,by omega,Zh ((d.drewN _).step i j),Zh (iA.setCell (S:=fun k=>k=p) (p:=(cA p 2)) (o.drewN _) (fun _=>rfl) _)⟩
  ·obtain rfl:F'=n:=dA
   go_upto_region 1 with fail;go_quiet (fail);go_upto_region 3 with fail;go_quiet (fail);go_wp2_with fail;go_ret;exact⟨F',_,rfl,.inl ⟨rfl,rfl⟩,t,(d.drewN _).drewN _,(o.drewN _).drewN _⟩
end P16
namespace P17
open Go.RowKit Kd P4 P5 P11 P12 P13 P14 P16
inductive KM:PW->Prop
 |mk {kind:Int} {tag key txt:qA} {attrs:List P3.At} {kids:List PW} (ha:P3.kC attrs=true) (hk:∀k∈kids,KM k):KM (.mk kind tag key txt attrs kids)
theorem kZ(a:P3.At):bD (vE a).op=true:=by
 cases h:a.st<;>simp[vE,h,bD]
theorem lZ{a:P3.At}(h:UB (vE a)=true):P1.JC a.nm.data.toList=true/\P1.yC a.vl.data.toList=true:=by
 cases hs:a.st<;>simp[vE,hs,UB] at h<;>exact h
theorem J5{l pre post:List In}{x:In}{ats:List P3.At}(hl:l=pre++x:: (ats.map vE++post))(hx:FE x.op=true)(hf:zD l l.length=0)(hm:∀a∈ats,UB (vE a)=true):P3.kC ats=true:=by
 have k:l.length=pre.length+1+ats.length+post.length:=(by rw[hl];simp;omega);have d:l[pre.length]? = some x:=(by rw[hl,List.getElem?_append_right Zl,Nat.sub_self];rfl);have f:∀j (b:j<ats.length),l[pre.length+1+j]? = some (vE ats[j]):=fun j b=>by
  rw[hl,List.getElem?_append_right dA,show pre.length+1+j-pre.length=j+1 by omega,List.getElem?_cons_succ,List.getElem?_append_left (by simpa using b),List.getElem?_map,List.getElem?_eq_getElem b];rfl
 have m:∀j,j<=ats.length->NG l (pre.length+1+j)=some ((ats.take j).map (fun a=>a.nm.toList)):=by
  intro j
  induction j with
  |zero=>
   intro _;have c:pre.length<l.length:=dA;have e:l[pre.length]=x:=(by rw[List.getElem?_eq_getElem c] at d;injection d);rw[Nat.add_zero,qQ c,e,lT hx];rfl
  |succ j ih=>
   intro b;have c:pre.length+1+j<l.length:=dA;have e:l[pre.length+1+j]=vE (ats[j]'dA):=by
    have:=f j dA;rw[List.getElem?_eq_getElem c] at this;injection this
   rw[show pre.length+1+(j+1)=pre.length+1+j+1 by omega,qQ c,e,mT (kZ _),ih dA,List.take_add_one,List.getElem?_eq_getElem dA,Option.toList_some,List.map_append];rfl
 have n:∀j (b:j<ats.length),ats[j].nm.toList∉(ats.take j).map (fun a=>a.nm.toList)/\j<8:=fun j b=>by
  have c:pre.length+1+j<l.length:=dA;have g:=(V0 c hf).2;rw[RH,f j b] at g;simp only[rR] at g;rw[hm _ (List.getElem_mem b),if_neg pA,kZ,if_pos rfl,oT l _ _ 0 dA,m j dA,RM] at g;split at g
  ·cases g
  ·rename_i hno;simp only[not_or,List.length_map,List.length_take] at hno;exact⟨hno.1,by have:=hno.2;omega⟩
 refine P3.AI.2 ⟨?_,fun a o=>lZ (hm a o),?_⟩
 ·rcases Nat.lt_or_ge 8 ats.length with h|h
  ·have:=(n 8 h).2;omega
  ·exact h
 ·rw[List.pairwise_iff_getElem];intro i j q b p e;refine(n j b).1 ?_;rw[List.mem_map];exact⟨ats[i],by rw[List.mem_take_iff_getElem];exact⟨i,by omega,rfl⟩,e⟩
theorem jU{l:List In}:∀{ks:List PW} {pre post:List In},(∀k∈ks,∀pre post,l=pre++(PD k++post)->KM k)->l=pre++(sD ks++post)->∀k∈ks,KM k
 |[],_,_,_,_,k,hk=>by cases hk
 |a:: ks,pre,post,h,hl,k,hk=>by
  rw[sD] at hl;rcases List.mem_cons.1 hk with rfl|hk
  ·exact h _ FA pre (sD ks++post) (by rw[hl,List.append_assoc])
  ·exact jU (ks:=ks) (pre:=pre++PD a) (post:=post) (fun k hk=>h k (by simp[hk])) (by rw[hl];simp) k hk
theorem Im{l:List In}(hf:zD l l.length=0):∀e:PW,tC e->∀pre post,l=pre++(PD e++post)->KM e:=by
 intro e
 induction e using PW.ind with
 |h kind tag key txt attrs kids ih=>
  intro d pre post b;cases d with
  |el hm ha a=>
   rw[TM (PL hm)] at b;refine .mk (J5 (pre:=pre) (post:=sD kids++[⟨2,z0,z0⟩]++post) (x:=⟨1,tag,key⟩) (by rw[b];simp) rfl hf ha) ?_;exact jU (pre:=pre++⟨1,tag,key⟩:: attrs.map vE) (post:=[⟨2,z0,z0⟩]++post) (fun k c=>ih k c (a k c)) (by rw[b];simp)
  |vo hm ha=>
   rw[yL (wK hm)] at b;exact .mk (J5 (pre:=pre) (post:=post) (x:=⟨3,tag,key⟩) (by rw[b];simp) rfl hf ha) (by intro k a;cases a)
  |tx _=>exact .mk rfl (by intro k a;cases a)
  |nd=>exact .mk rfl (by intro k a;cases a)
  |al=>exact .mk rfl (by intro k a;cases a)
theorem Jm{l:List In}(h:WD l=0):∀t∈MB l,KM t:=by
 obtain⟨_,a,_⟩:=qT h;obtain⟨b,c⟩:=GQ h;exact jU (pre:=[]) (post:=[]) (fun k d=>Im a k (c k d)) (by simp[b])
end P17
namespace P14
open Go.RowKit Kd P4 P5 P11 P12 P13
structure Wm(K:Kind prog WV)(w:World)(A:vA)(n c:Nat)(ts:List WV):Prop where
 len:ts.length=n
 cap:n<=c
 cm:c<=maxLen
 nil:A=none->c=0
 holds:K.AA w w.heap.size A ts
 ok:∀t∈ts,oD K w w.heap.size t
end P14
namespace P19
open P5 P14 P16
def PF(l:List Nd)(par:Int)(ids:List Int)(beh:Int):Prop:=∃pre post:List Int,xA l par=pre++(ids++post)/\beh=post.headD 0
theorem yP{d:D}(h:WF d):vJ d:=by exact h.xM
theorem xX{d:D}{par beh:Int}{ids:List Int}(hw:WF d)(h:PF d.l par ids beh):(∀i∈ids,nA d.l i=true/\EA d.l i=par)/\ids.Nodup/\ids.length<=200/\(beh=0\/nA d.l beh=true/\EA d.l beh=par/\beh∉ids):=by
 obtain⟨m,a,e,b⟩:=h;have k:=hw.tr.AD par;have l:=LJ hw par;rw[e] at k l;obtain⟨_,f,_⟩:=List.nodup_append.1 k;obtain⟨g,_,j⟩:=List.nodup_append.1 f;refine⟨fun i n=>(hw.tr.aB par i (by rw[e];simp[n])).2,g,by simp at l;omega,?_⟩;cases a with
 |nil=>exact .inl b
 |cons c r=>
  have b:beh=c:=b;subst b;exact .inr ⟨(hw.tr.aB par beh (by rw[e];simp)).2.1,(hw.tr.aB par beh (by rw[e];simp)).2.2,fun h=>j beh h beh FA rfl⟩
theorem xu{x:PW}(h:P17.KM x):DH x:=by
 induction x using PW.ind with
 |h kind tag key txt attrs kids ih=>
  cases h with
  |mk ha hk=>exact .mk ha (fun k a=>ih k a (hk k a))
mutual
theorem yu:∀x:PW,ZF x<=pF x
 | .mk kind tag key txt attrs kids=>by
   rw[ZF,pF];have:=DV kids;omega
theorem DV:∀l:List PW,pC l<=cD l
 |[]=>by rw[pC,cD];exact Zl
 |x:: r=>by
  rw[pC,cD];have:=yu x;have:=DV r;omega
end
theorem Rg{s:Sg}{par beh:Int}{ids:List Int}{want:List PW}(hw:WF s.1)(hm:vJ s.1)(hs:PF s.1.l par ids beh)(hp:nA s.1.l par=true)(hk:qC (RA s.1.l par)=false)(hwf:∀x∈want,tC x)(hg:∀x∈want,DH x)(hr:s.1.l.length+xB want<=s.1.R):cG (dL want+1) s par ids beh want:=by
 obtain⟨a,b,_,c⟩:=xX hw hs;exact Df (dL want) Zl ⟨hw,hm,hw.tr.jG hp,hp,.inr hk,a,b,c,hwf,hg,hr⟩
end P19
namespace P16
open Go.RowKit Kd P4 P5 P11 P12 P13 P14 Mv
def vO(w:World)(B p g h m:Nat)(A:vA)(n c:Nat)(old:List Ol)(left:List Bool):Prop:=∃(F s:Nat) (f:Lit->Option Value) (nl:List Int),Lf w B p g h m A n c old left F s f nl
def FH(w:World)(B p g h m:Nat)(A:vA)(n c:Nat)(old:List Ol)(left:List Bool)(a:Int)(e:Ending)(w':World):Prop:=e= .returned (aA a)/\vO w' B p g h m A n c old (QG left a)/\iA (W3 p g m) w w'
theorem UQ{left:List Bool}{i:Nat}:QG left (i:Int)=left.set i false:=by
 rw[QG,if_pos dA];rfl
theorem rK{left:List Bool}:QG left (-1)=left:=by
 rw[QG,if_neg pA]
def iQ(old:List Ol)(left:List Bool)(t k:qA)(i:Nat):Prop:=∀(j:Nat) (h:j<old.length),j<i->bG t k old[j]=true->left[j]? = some false
theorem nt{pw:PW}{old:List Ol}{left:List Bool}(h1:pw.kind=1)(hk:pw.key.toList.isEmpty=false){i:Nat}(ha:iQ old left pw.tag pw.key i):
 (MF old pw.tag pw.key i = -1->(tB pw old left old.length).1 = -1)/\(∀(j:Nat) (h:j<old.length),MF old pw.tag pw.key i=(j:Int)->i<=j/\bG pw.tag pw.key old[j]=true/\(left[j]? = some true->(tB pw old left old.length).1=(j:Int))/\(left[j]? = some false->iQ old left pw.tag pw.key (j+1))):=by
 constructor
 ·intro l;rcases mR old pw.tag pw.key _ i rfl with⟨_,h2⟩|⟨j,c,e,_⟩
  ·refine fT (n:=old.length) (fun j c a o b f=>?_) _ Zl;rw[sU h1 hk];rw[List.getElem?_eq_getElem c] at b;injection b with b;subst b;by_cases p:j<i
   ·cases hx:bG pw.tag pw.key old[j] with
    |false=>rfl
    |true=>
     rw[ha j c p hx] at a;cases a
   ·exact h2 j c dA
  ·rw[l] at e;omega
 ·intro j c l;rcases mR old pw.tag pw.key _ i rfl with⟨e,_⟩|⟨j',hj',e,hij,hk',hm⟩
  ·rw[l] at e;omega
  ·rw[l] at e;have e:j=j':=dA;subst e;refine⟨hij,hk',fun a=>?_,fun a q m r d=>?_⟩
   ·refine Kh (o:=old[j]) (fun q m a o b f=>?_) a (List.getElem?_eq_getElem c) (fun f=>by rw[sU h1 hk];exact hk') c;rw[sU h1 hk];have g:q<old.length:=dA;rw[List.getElem?_eq_getElem g] at b;injection b with b;subst b;by_cases k:q<i
    ·cases hx:bG pw.tag pw.key old[q] with
     |false=>rfl
     |true=>
      rw[ha q g k hx] at a;cases a
    ·exact hm q g dA m
   ·by_cases k:q<i
    ·exact ha q m k d
    ·by_cases e:q=j
     ·subst e;exact a
     ·rw[hm q m dA dA] at d;cases d
theorem Le{w:World}{B p g h m:Nat}{A:Option Addr}{n c:Nat}{old:List Ol}{left:List Bool}{F s:Nat}{f:Lit->Option Value}{nl:List Int}(x:Lf w B p g h m A n c old left F s f nl)
 (pw:PW) (h1:pw.kind=1) (ht:pw.tag.toList.isEmpty=false) (hk:pw.key.toList.isEmpty=false) (ht2:pw.tag.size<=maxLen) (hk2:pw.key.size<=maxLen):
 Calls prog 230 #[.pointer (some ⟨p,0,none⟩),.agg #[.string pw.tag,.string pw.key]] w (FH w B p g h m A n c old left (tB pw old left old.length).1):=by
 have B1:Hid (Below w.heap.size w (w.alloc (.cells #[.string pw.tag,.string pw.key] 289))):=Zh (Zb _ _);have D:Hid ((w.alloc (.cells #[.string pw.tag,.string pw.key] 289)).heap[w.heap.size]? = some (.cells #[.string pw.tag,.string pw.key] 289 (0,0))):=Zh (heap_alloc_new w _);have XL:=Zh (x.alloc (.cells #[.string pw.tag,.string pw.key] 289));have H:Hid (w.heap.size≠m):=Zh (by have:=x.map.lt;omega);have P:=Zh x.len;have a6:=x.small;clear x;have AS:Hid (∀i,iQ old left pw.tag pw.key i->_):=Zh (fun i ha=>nt h1 hk (i:=i) ha);have HT:=Zh ht;have HK:=Zh hk;have Q:Hid (keyOf prog 289 (.agg #[.string pw.tag,.string pw.key])=some (jD pw.tag pw.key)):=Zh (VP ht2 hk2);have I:=Zh ht2;have J:=Zh hk2;generalize (tB pw old left old.length).1=a7 at AS|-;generalize pw.tag=t at *;generalize pw.key=k at *;clear h1 ht hk ht2 hk2;go_enter func230,ntmps230;go_upto_region 1 with fail;generalize a2:w.heap.size=d at D H B1|-;rw[<-a2] at B1;generalize w.alloc (.cells #[.string t,.string k] 289)=W at B1 D XL|-;have a0:W.cell? ⟨d,0,none⟩=some (.string t):=cell_of_row W d 0 _ _ (0,0) D.out;have a1:W.cell? ⟨d,1,none⟩=some (.string k):=cell_of_row W d 1 _ _ (0,0) D.out;obtain⟨i,K,R⟩:=XL.out.nm t k I.out J.out HT.out HK.out;have v:=Zh R;have CN:=Zh (Vf XL.out t k I.out J.out _ K);have y:=Zh K;clear R K;go_wp2_with fail;refine CN.out.mono ?_;rintro e w1 ⟨rfl,b1⟩;have ST:Hid (∃(r:Nat) (a:Int) (l:Lit->Option Value),n-i=n-r/\Value.int .i64 (MF old t k i)= .int .i64 a/\Hid (MF old t k r=a)/\Hid (iQ old left t k r)/\Hid (MM (l (jD t k)) a)/\Hid (Lf w1 B p g h m A n c old left F s l nl)/\Hid (iA (fun q=>q=m) W w1)):=Zh ⟨i,_,f,rfl,rfl,Zh rfl,v,y,Zh (XL.out.on b1),Zh (iA.oB b1 _)⟩;clear b1 CN a0 a1 v y;go_wp2_with fail
 go_loopg [5] (n-i) (fun q s5 wr=>∃(r:Nat) (a:Int) (l:Lit->Option Value),q=n-r/\s5= .int .i64 a/\Hid (MF old t k r=a)/\Hid (iQ old left t k r)/\Hid (MM (l (jD t k)) a)/\Hid (Lf wr B p g h m A n c old left F s l nl)/\Hid (iA (fun q=>q=m) W wr))
 case atStart=>exact ST.out
 case round=>
  obtain⟨r,a,l,rfl,rfl,HN,v,y,u,HB⟩:=hrel;clear ST;obtain⟨z,C⟩:=AS.out r v.out;have c1:=u.out.c1;have c4:=u.out.c4;have c3:=u.out.c3;have E:=HB.out.block d (JA D.out) H.out;have U:=Zh (E.trans D.out);have a0:wr.cell? ⟨d,0,none⟩=some (.string t):=cell_of_row wr d 0 _ _ (0,0) U.out;have a1:wr.cell? ⟨d,1,none⟩=some (.string k):=cell_of_row wr d 1 _ _ (0,0) U.out;clear E;have V:Hid (iA (W3 p g m) w wr):=Zh (((iA.oB B1.out _).trans (HB.out.mono (T:=W3 p g m) (fun q _ hq=> .inr (.inr hq))) (fun _ _ h=>h)));rcases mR old t k _ r rfl with⟨e,_⟩|⟨j,hj,e,_⟩
  ·have e2:a = -1:=HN.out.symm.trans e;subst e2;have o:=z e;subst o;clear z C e;go_wp2_with fail;go_ret;exact⟨rfl,⟨F,s,l,nl,by rw[rK];exact u.out⟩,V.out⟩
  ·have e2:a=(j:Int):=HN.out.symm.trans e;subst e2;obtain⟨a8,L,r1,r2⟩:=C j hj e;have X:j<n:=(by have:=P.out;omega);obtain⟨b,hb,g0,gf⟩:=u.out.taken X;cases b with
   |true=>
    have o:=r1 hb;subst o;clear z C r1 r2 hb e L;go_wp2_with fail;go_ret;refine⟨rfl,⟨F,s,l,nl,?_⟩,?_⟩
    ·rw[UQ];exact u.out.take X
    ·exact iA.setCell (S:=W3 p g m) (p:=⟨g,j,none⟩) V.out (fun _=> .inr (.inl rfl)) _
   |false=>
    have Y:=Zh (r2 hb);obtain⟨rfl,rfl⟩:=SR.1 L;have a3:=u.out.next hj HT.out HK.out;obtain⟨a',M⟩:∃a',MF old old[j].tag old[j].key (j+1)=a':=⟨_,rfl⟩;have Z:=Zh M;rw[M] at a3;have a9:=u.out.sz;have G:(l (jD old[j].tag old[j].key)).isSome=true:=by
     rcases y.out with⟨_,hz⟩|hz
     ·omega
     ·rw[hz];rfl
    have a4:=Zh G;obtain⟨O,a5,m6,g6⟩:=(u.out.map.kept (w':=wr.drew) rfl).store (Maps.Keyed.of_law eQ) underlying311 (by unfold maxLen;omega) (val:=.int .i64 a') Q.out (YL l (jD old[j].tag old[j].key) (some (.int .i64 a')));have G6:=Zh (AY g6);have L6:=Zh (u.out.name I.out J.out a4.out (j+1) Z.out Y.out m6 G6.out);have B6:Hid (iA (fun q=>q=m) W O):=Zh (HB.out.trans (T:=fun q=>q=m) (iA.WG G6.out (fun q hq _=>(Option.some.inj hq).symm)) (fun _ _ h=>h));have N:=(B6.out.block d (JA D.out) H.out).trans D.out;have K6:O.cell? ⟨p,3,none⟩=some (.map (some m))/\O.cell? ⟨d,0,none⟩=some (.string old[j].tag)/\O.cell? ⟨d,1,none⟩=some (.string old[j].key):=⟨L6.out.c3,cell_of_row O d 0 _ _ (0,0) N,cell_of_row O d 1 _ _ (0,0) N⟩;have N6:Hid (MM (kK l (jD old[j].tag old[j].key) (some (.int .i64 a')) (jD old[j].tag old[j].key)) a'):=Zh (.inr (YL l _ _).1);clear z C r1 r2 hb e L g6 m6 N M G;go_upto_region 4 with fail;go_region_held3 (fun w'=>w'.cell? ⟨p,3,none⟩=some (.map (some m))/\w'.cell? ⟨d,0,none⟩=some (.string old[j].tag)/\w'.cell? ⟨d,1,none⟩=some (.string old[j].key)) (first|go_keep|exact K6) (fail);go_wp2_with fail
    go_roundg (n-(j+1))
    case measure=>omega
    case rel=>exact⟨j+1,a',_,rfl,rfl,Z,Y,N6,L6,B6⟩
theorem Gx:prog.eqGuardType prog.depth 289=false:=by kernel_rfl
theorem Xf{b:qA}(h:b.toList.isEmpty=true):b=⟨#[]⟩:=by
 obtain⟨⟨l⟩⟩:=b;rw[ByteArray.toList_eq,List.isEmpty_iff] at h;simp only at h;rw[h]
theorem fk(t:PW)(o:Ol)(q:Nat)(w:World)(h1:t.kind=1)(ht:t.tag.toList.isEmpty=false)(hk:t.key.toList.isEmpty=true)(hq:w.cell? (cA q 1)=some (bA t.tag))(hlt:q<w.heap.size):
 jA 232 #[.agg #[bA o.tag,bA o.key],lA q] w fun e w'=>e= .returned (.bool (fD t o true))/\fA w w':=by
 obtain⟨r,k⟩:=DA (bG t.tag ⟨#[]⟩ o);have s:Hid (fD t o true=(!o.tag.toList.isEmpty&&r)):=Zh (by
  rw[<-k];unfold fD bG;rw[if_pos h1,Xf hk];cases ho:o.tag.toList.isEmpty with
  |false=>simp
  |true=>
   have:bq o.tag t.tag=false:=by
    unfold bq;rw[List.isEmpty_iff] at ho;rw[ho];cases hx:t.tag.toList with
    |nil=>rw[hx] at ht;cases ht
    |cons _ _=>rfl
   rw[this];simp)
 rw[s.out];have i:Hid (fA w (w.alloc (.cells #[bA o.tag,bA o.key] 289))):=Zh (Zb _ _);have g:Hid ((w.alloc (.cells #[bA o.tag,bA o.key] 289)).heap[w.heap.size]? = some (.cells #[bA o.tag,bA o.key] 289 (0,0))):=Zh (heap_alloc_new w _);have u:=Zh hq;have a:Hid (r=(decide (o.tag.toList=t.tag.toList)&&decide (o.key.toList=[]))):=Zh (by rw[<-k];unfold bG bq;rw[show(⟨#[]⟩:qA).toList=[] from by simp[ByteArray.toList_eq]];rw[Bool.eq_iff_iff];simp only[Bool.and_eq_true,beq_iff_eq,decide_eq_true_eq]);clear hq s k h1 ht hk;generalize t.tag=D at u a;obtain⟨tag,key⟩:=o;simp only at i g a|-;have E:=Gx;go_enter func232,ntmps232;go_upto_region 1 with fail;have c:=(i.cell (p:=(cA q 1)) hlt).trans u;generalize w.alloc (.cells #[bA tag,bA key] 289)=W at i g c|-;have v:=iB 0 g;have x:=iB 1 g;have l:=Zh (cT tag key W);obtain⟨y,d⟩:=DA tag.toList.isEmpty;rw[d] at l;have m:=Zh d;have f:=Zh (JA g);go_wp2_with fail;refine l.mono ?_;rintro e F ⟨rfl,j⟩;have z:=(j.cell (p:=⟨w.heap.size,0,none⟩) f).trans v;have A:=(j.cell (p:=⟨w.heap.size,1,none⟩) f).trans x;have B:=(j.cell (p:=(cA q 1)) (show q<W.heap.size by have:=f.out;omega)).trans c;have C:=Zh (i.trans (j.mono i.size));clear j v x c l g d;have n:=a.out;subst n;clear a;cases y<;>(go_wp2_with fail)<;>(go_ret;exact⟨by first|rfl|(have h1:=m.out;simp_all),C⟩)
theorem ik(t:PW)(o:Ol)(w:World)(h2:t.kind=2):
 jA 233 #[.agg #[bA o.tag,bA o.key]] w fun e w'=>e= .returned (.bool (fD t o true))/\fA w w':=by
 have f:fD t o true = !(!o.tag.toList.isEmpty):=by
  unfold fD;rw[if_neg dA,if_pos h2];simp
 rw[f];clear f h2;have c:Hid (fA w (w.alloc (.cells #[bA o.tag,bA o.key] 289))):=Zh (Zb _ _);have d:Hid ((w.alloc (.cells #[bA o.tag,bA o.key] 289)).heap[w.heap.size]? = some (.cells #[bA o.tag,bA o.key] 289 (0,0))):=Zh (heap_alloc_new w _);obtain⟨tag,key⟩:=o;simp only at c d|-;go_enter func233,ntmps233;go_upto_region 1 with fail;generalize w.alloc (.cells #[bA tag,bA key] 289)=W at c d|-;have l:=iB 0 d;have m:=iB 1 d;have g:=Zh (cT tag key W);obtain⟨j,a⟩:=DA tag.toList.isEmpty;rw[a] at g;go_wp2_with fail;refine g.mono ?_;rintro e n ⟨rfl,i⟩;have k:=Zh (c.trans (i.mono c.size));clear i;go_wp2_with fail;go_ret;exact⟨by rw[a];cases j<;>rfl,k⟩
theorem jk(t:PW)(o:Ol)(w:World)(h3:t.kind=3):
 jA 234 #[.agg #[bA o.tag,bA o.key]] w fun e w'=>e= .returned (.bool (fD t o true))/\fA w w':=by
 have a:fD t o true=true:=by
  unfold fD;rw[if_neg dA,if_neg dA,if_pos h3]
 rw[a];clear a h3;have b:Hid (fA w (w.alloc (.cells #[bA o.tag,bA o.key] 289))):=Zh (Zb _ _);go_enter func234,ntmps234;go_wp2_with fail;go_ret;exact⟨rfl,b⟩
theorem De{w:World}{B p g h m:Nat}{A:vA}{n c:Nat}{old:List Ol}{left:List Bool}{F s:Nat}{f:Lit->Option Value}{nl:List Int}(x:Lf w B p g h m A n c old left F s f nl)
 (pw:PW) (hw:∀o,fD pw o false=false) (q:Nat) (HF:∀(o:Ol) (wz:World),iA (fun k=>k=p) w wz->jA 232 #[.agg #[bA o.tag,bA o.key],lA q] wz fun e w'=>e= .returned (.bool (fD pw o true))/\fA wz w'):
 jA 231 #[lA p,.func (.func 232) #[] #[lA q]] w (FH w B p g h m A n c old left (tB pw old left old.length).1):=by
 have O:=Zh (gI x);have z:=Zh HF;have C:=Zh x.len;have V:=x.small;have v:Hid (∀d,d<=n->(∀i:Nat,i<d->left[i]? = some false)->(d=n->(tB pw old left old.length).1 = -1)/\(∀(D:d<old.length),left[d]? = some true->(tB pw old left old.length).1=if fD pw old[d] true then(d:Int) else -1)):=Zh (fun d W P=>⟨fun e=>by rw[OO (n:=old.length) (fun i hi=>P i (IA x.len)) _ Zl],fun D l=>UT hw P l (List.getElem?_eq_getElem D) D⟩);clear x HF hw;generalize (tB pw old left old.length).1=X at v|-;go_enter func231,ntmps231;go_wp2_with fail;refine O.mono ?_;rintro e Y ⟨d,a,rfl,K,Z,y,I⟩;have Q:=Zh y;have R:=Zh I;have t:=v d y.front y.gone;clear O v;rcases K with⟨rfl,rfl⟩|⟨l,rfl,D⟩
 ·obtain rfl:=t.1 rfl;clear t y I;go_wp2_with fail;go_ret;exact⟨rfl,⟨d,s,f,nl,by rw[rK];exact Q⟩,R.mono (T:=W3 p g m) (fun _ _ h=> .inl h)⟩
 ·have E:d<old.length:=(IA C.out);have u:=Zh (t.2 E D);obtain⟨b,o,rfl,hb,z0,L⟩:=QQ y.YF E;have G:=Zh (z old[d] Y I);have c0:=y.c0;clear t y I z;generalize old[d]=ob at z0 L G u;obtain⟨tag,key⟩:=ob;simp only at z0 L G;obtain⟨tk,H⟩:=DA (fD pw ⟨tag,key⟩ true);rw[H] at G u;clear H;go_wp2_with fail;refine G.mono ?_;rintro e w2 ⟨rfl,M⟩;have J:=Zh (Q.on M);have U:Hid (iA (W3 p g m) w w2):=Zh ((R.mono (T:=W3 p g m) (fun _ _ h=> .inl h)).trans (T:=fun _=>False) (iA.oB M _) (fun _ _ h=>h.elim));clear M z0 L c0 G;cases tk with
  |false=>
   have j:=u.out;simp only[Bool.false_eq_true,if_false] at j;subst j;go_wp2_with fail;go_ret;exact⟨rfl,⟨d,s,f,nl,by rw[rK];exact J⟩,U⟩
  |true=>
   have j:=u.out;simp only[if_true] at j;subst j;have c1:=J.c1;obtain⟨bb,N,g0,gf⟩:=J.taken l;clear N;go_wp2_with fail;go_ret;refine⟨rfl,⟨d,s,f,nl,?_⟩,?_⟩
   ·rw[UQ];exact J.take l
   ·exact iA.setCell (S:=W3 p g m) (p:=(cA g d)) U (fun _=> .inr (.inl rfl)) _
theorem Ee{w:World}{B p g h m:Nat}{A:vA}{n c:Nat}{old:List Ol}{left:List Bool}{F s:Nat}{f:Lit->Option Value}{nl:List Int}(x:Lf w B p g h m A n c old left F s f nl)
 (pw:PW) (hw:∀o,fD pw o false=false) (HF:∀(o:Ol) (wz:World),iA (fun k=>k=p) w wz->jA 233 #[.agg #[bA o.tag,bA o.key]] wz fun e w'=>e= .returned (.bool (fD pw o true))/\fA wz w'):
 jA 231 #[lA p,.func (.func 233) #[] #[]] w (FH w B p g h m A n c old left (tB pw old left old.length).1):=by
 have N:=Zh (gI x);have y:=Zh HF;have z:=Zh x.len;have U:=x.small;have u:Hid (∀d,d<=n->(∀i:Nat,i<d->left[i]? = some false)->(d=n->(tB pw old left old.length).1 = -1)/\(∀(C:d<old.length),left[d]? = some true->(tB pw old left old.length).1=if fD pw old[d] true then(d:Int) else -1)):=Zh (fun d V O=>⟨fun e=>by rw[OO (n:=old.length) (fun i hi=>O i (IA x.len)) _ Zl],fun C l=>UT hw O l (List.getElem?_eq_getElem C) C⟩);clear x HF hw;generalize (tB pw old left old.length).1=W at u|-;go_enter func231,ntmps231;go_wp2_with fail;refine N.mono ?_;rintro e X ⟨d,a,rfl,J,Y,v,H⟩;have P:=Zh v;have Q:=Zh H;have q:=u d v.front v.gone;clear N u;rcases J with⟨rfl,rfl⟩|⟨l,rfl,C⟩
 ·obtain rfl:=q.1 rfl;clear q v H;go_wp2_with fail;go_ret;exact⟨rfl,⟨d,s,f,nl,by rw[rK];exact P⟩,Q.mono (T:=W3 p g m) (fun _ _ h=> .inl h)⟩
 ·have D:d<old.length:=(IA z.out);have t:=Zh (q.2 D C);obtain⟨b,o,rfl,hb,z0,K⟩:=QQ v.YF D;have E:=Zh (y old[d] X H);have Z:=v.c0;clear q v H y;generalize old[d]=ob at z0 K E t;obtain⟨tag,key⟩:=ob;simp only at z0 K E;obtain⟨tk,G⟩:=DA (fD pw ⟨tag,key⟩ true);rw[G] at E t;clear G;go_wp2_with fail;refine E.mono ?_;rintro e w2 ⟨rfl,L⟩;have I:=Zh (P.on L);have R:Hid (iA (W3 p g m) w w2):=Zh ((Q.mono (T:=W3 p g m) (fun _ _ h=> .inl h)).trans (T:=fun _=>False) (iA.oB L _) (fun _ _ h=>h.elim));clear L z0 K Z E;cases tk with
  |false=>
   have j:=t.out;simp only[Bool.false_eq_true,if_false] at j;subst j;go_wp2_with fail;go_ret;exact⟨rfl,⟨d,s,f,nl,by rw[rK];exact I⟩,R⟩
  |true=>
   have j:=t.out;simp only[if_true] at j;subst j;have c1:=I.c1;obtain⟨bb,M,g0,gf⟩:=I.taken l;clear M;go_wp2_with fail;go_ret;refine⟨rfl,⟨d,s,f,nl,?_⟩,?_⟩
   ·rw[UQ];exact I.take l
   ·exact iA.setCell (S:=W3 p g m) (p:=(cA g d)) R (fun _=> .inr (.inl rfl)) _
theorem Fe{w:World}{B p g h m:Nat}{A:vA}{n c:Nat}{old:List Ol}{left:List Bool}{F s:Nat}{f:Lit->Option Value}{nl:List Int}(x:Lf w B p g h m A n c old left F s f nl)
 (pw:PW) (hw:∀o,fD pw o false=false) (HF:∀(o:Ol) (wz:World),iA (fun k=>k=p) w wz->jA 234 #[.agg #[bA o.tag,bA o.key]] wz fun e w'=>e= .returned (.bool (fD pw o true))/\fA wz w'):
 jA 231 #[lA p,.func (.func 234) #[] #[]] w (FH w B p g h m A n c old left (tB pw old left old.length).1):=by
 have N:=Zh (gI x);have y:=Zh HF;have z:=Zh x.len;have U:=x.small;have u:Hid (∀d,d<=n->(∀i:Nat,i<d->left[i]? = some false)->(d=n->(tB pw old left old.length).1 = -1)/\(∀(C:d<old.length),left[d]? = some true->(tB pw old left old.length).1=if fD pw old[d] true then(d:Int) else -1)):=Zh (fun d V O=>⟨fun e=>by rw[OO (n:=old.length) (fun i hi=>O i (IA x.len)) _ Zl],fun C l=>UT hw O l (List.getElem?_eq_getElem C) C⟩);clear x HF hw;generalize (tB pw old left old.length).1=W at u|-;go_enter func231,ntmps231;go_wp2_with fail;refine N.mono ?_;rintro e X ⟨d,a,rfl,J,Y,v,H⟩;have P:=Zh v;have Q:=Zh H;have q:=u d v.front v.gone;clear N u;rcases J with⟨rfl,rfl⟩|⟨l,rfl,C⟩
 ·obtain rfl:=q.1 rfl;clear q v H;go_wp2_with fail;go_ret;exact⟨rfl,⟨d,s,f,nl,by rw[rK];exact P⟩,Q.mono (T:=W3 p g m) (fun _ _ h=> .inl h)⟩
 ·have D:d<old.length:=(IA z.out);have t:=Zh (q.2 D C);obtain⟨b,o,rfl,hb,z0,K⟩:=QQ v.YF D;have E:=Zh (y old[d] X H);have Z:=v.c0;clear q v H y;generalize old[d]=ob at z0 K E t;obtain⟨tag,key⟩:=ob;simp only at z0 K E;obtain⟨tk,G⟩:=DA (fD pw ⟨tag,key⟩ true);rw[G] at E t;clear G;go_wp2_with fail;refine E.mono ?_;rintro e w2 ⟨rfl,L⟩;have I:=Zh (P.on L);have R:Hid (iA (W3 p g m) w w2):=Zh ((Q.mono (T:=W3 p g m) (fun _ _ h=> .inl h)).trans (T:=fun _=>False) (iA.oB L _) (fun _ _ h=>h.elim));clear L z0 K Z E;cases tk with
  |false=>
   have j:=t.out;simp only[Bool.false_eq_true,if_false] at j;subst j;go_wp2_with fail;go_ret;exact⟨rfl,⟨d,s,f,nl,by rw[rK];exact I⟩,R⟩
  |true=>
   have j:=t.out;simp only[if_true] at j;subst j;have c1:=I.c1;obtain⟨bb,M,g0,gf⟩:=I.taken l;clear M;go_wp2_with fail;go_ret;refine⟨rfl,⟨d,s,f,nl,?_⟩,?_⟩
   ·rw[UQ];exact I.take l
   ·exact iA.setCell (S:=W3 p g m) (p:=(cA g d)) R (fun _=> .inr (.inl rfl)) _
end P16
namespace P16
open Go.RowKit Kd P4 P5 P11 P12 P13 P14 Mv Go.ChangeMaps Go.MapKept
theorem pt(n:Nat):(List.replicate n true).map not=List.replicate n false:=by simp
theorem Yf(M:Nat)(hM:M<=100000)(w:World):(Instr.makeSlice 244 (aA (M:Int)) (aA (M:Int))).run prog w= .ok (.slice (some ⟨w.heap.size,0,none⟩) M M) (w.alloc (.cells (madeCells #[.bool false] M) 4)):=
 run_make_row' 244 4 (.bool false) 1 underlying244 Kc rfl .i64 .i64 M dA dA w
theorem qt:(prog.info? 3).map (fun i=>(i.zero,i.size,i.bytes))=some (some (aA 0),1,8):=by kernel_rfl
theorem EY(M:Nat)(hM:M<=100000)(w:World):(Instr.makeSlice 34 (aA (M:Int)) (aA (M:Int))).run prog w= .ok (.slice (some ⟨w.heap.size,0,none⟩) M M) (w.alloc (.cells (madeCells #[aA 0] M) 3)):=
 run_make_row' 34 3 (aA 0) 8 underlying34 qt rfl .i64 .i64 M dA dA w
theorem YT:∀M:Nat,kI.cells (List.replicate M 0)=List.replicate M (aA 0)
 |0=>rfl
 |M+1=>by
  have h:=YT M;simp only[Kind.cells,List.replicate_succ,List.flatMap_cons] at h|-;rw[h];rfl
structure Nf(w:World)(B p g h m:Nat)(A:vA)(n c:Nat)(old:List Ol)(s:Nat)(f:Lit->Option Value)(nl:List Int)(i:Nat):Prop where
 zA:w.heap[p]? = some (QW A n c g 0 m h)
 Bp:B<=p
 Bm:B<=m
 YF:kO.AA w B A old
 own:lL.Own w B (.slice (some (cA g 0)) n n) ((List.replicate n true).map not)
 nx:kI.Own w B (.slice (some (cA h 0)) n n) nl
 map:zC prog 289 w m s s f
 sz:s+i<=n
 nm:∀t k:qA,t.size<=maxLen->k.size<=maxLen->t.toList.isEmpty=false->k.toList.isEmpty=false->MM (f (jD t k)) (MF old t k i)
 aJ:Wd old nl i
theorem Nf.lf{w:World}{B p g h m:Nat}{A:vA}{n c:Nat}{old:List Ol}{s:Nat}{f:Lit->Option Value}{nl:List Int}(x:Nf w B p g h m A n c old s f nl 0)(hl:old.length=n)(hs:n<=1000)(hz:∀o∈old,o.tag.size<=maxLen/\o.key.size<=maxLen):
 Lf w B p g h m A n c old (List.replicate n true) 0 s f nl:=
 {zA:=x.zA,Bp:=x.Bp,Bm:=x.Bm,YF:=x.YF,own:=x.own,nx:=x.nx,map:=x.map,sz:=by have:=x.sz;omega,len:=hl,IM:=by simp,small:=hs,fy:=hz,front:=Nat.zero_le _,gone:=fun i l=>by omega,nm:=fun t k a b d e=>⟨0,x.nm t k a b d e,fun j _ q=>by omega⟩,aJ:=x.aJ}
theorem xT{w:World}{B g n c:Nat}{l:List Int}(h:kI.Own w B (.slice (some (cA g 0)) n c) l){k:Nat}(hk:k<l.length)(v:Int):
 w.frozen? (cA g k)=false/\(w.cell? (cA g k)).isSome=true/\kI.Own (w.setCell (cA g k) (aA v)) B (.slice (some (cA g 0)) n c) (l.set k v):=by
 refine⟨?_,?_,?_⟩
 ·obtain⟨f,i⟩:=h.ty (g:=g) rfl;simp[World.frozen?,i]
 ·obtain⟨p,q,r,j,_,_,_,_,m⟩:=h.slice;injection j with h1 h2 h3;subst h1;subst h2;subst h3;obtain⟨b,o,a,_,d⟩:=yE m hk;injection a with a;injection a with e1 e2 _;subst e1;subst e2;have d:w.cell? (cA g k)=some (aA l[k]):=(by simpa using d);rw[d];rfl
 ·have:=K7 h hk v;have e:k*kI.size=k:=Nat.mul_one k;rw[e] at this;exact this
section
variable{w w':World}{B p g h m:Nat}{A:vA}{n c:Nat}{old:List Ol}{s:Nat}{f:Lit->Option Value}{nl:List Int}{i j:Nat}
theorem Nf.le(x:Nf w B p g h m A n c old s f nl i):B<=w.heap.size:=by have:=JA x.zA;have:=x.Bp;omega
theorem Nf.on(x:Nf w B p g h m A n c old s f nl i)(hb:fA w w'):Nf w' B p g h m A n c old s f nl i:=
 {x with zA:=(hb.block p (JA x.zA)).trans x.zA,YF:=x.YF.below hb x.le,own:=x.own.below hb Zl,nx:=x.nx.below hb Zl,map:=x.map.below hb x.map.lt}
theorem Nf.c3(x:Nf w B p g h m A n c old s f nl i):w.cell? (cA p 3)=some (.map (some m)):=cell_of_row w p 3 _ _ (0,0) x.zA
theorem Nf.c4(x:Nf w B p g h m A n c old s f nl i):w.cell? (cA p 4)=some (.slice (some (cA h 0)) n n):=cell_of_row w p 4 _ _ (0,0) x.zA
theorem Nf.yW(x:Nf w B p g h m A n c old s f nl i):nl.length=n:=by
 obtain⟨b,d,e,a,j,_⟩:=x.nx.slice;injection a with h1 h2 h3;omega
theorem Nf.set(x:Nf w B p g h m A n c old s f nl (j+1))(hj:j<n)(v:Int):Nf (w.setCell (cA h j) (aA v)) B p g h m A n c old s f (nl.set j v) (j+1):=by
 have d:iA (fun k=>k=h) w (w.setCell (cA h j) (aA v)):=jJ w h j _;obtain⟨u,l⟩:=x.nx.ty (g:=h) rfl;obtain⟨t,o⟩:=x.own.ty (g:=g) rfl;have y:p≠h:=WA x.zA l pA;have z:g≠h:=WA o l pA;have C:h≠m:=SJ x.map l;exact {x with
  zA:=(d.block p (JA x.zA) y).trans x.zA
  YF:=x.YF.VB (fun b _ D=>d.block b (IA x.le) (fun e=>by have:=(x.nx.lt (g:=h) rfl).1;omega))
  own:=x.own.but d (fun i E e=>z (by rw[<-e];exact Option.some.inj E))
  nx:=(xT x.nx (by rw[x.yW];exact hj) v).2.2
  map:=x.map.kept (d.block m x.map.lt (fun e=>C e.symm))
  aJ:=fun q F r a b=>by
   rw[List.getElem?_set_ne dA];exact x.aJ q F r a b}
theorem Nf.name(x:Nf w B p g h m A n c old s f nl (j+1))(hj:j<old.length)(h1:old[j].tag.size<=maxLen)(h2:old[j].key.size<=maxLen)(hv:nl[j]? = some (MF old old[j].tag old[j].key (j+1)))
 (hm:zC prog 289 w' m (s+1) (if(f (jD old[j].tag old[j].key)).isSome then s else s+1) (kK f (jD old[j].tag old[j].key) (some (aA (j:Int))))) (hg:w.grownBy w' (some m)):∃s',Nf w' B p g h m A n c old s' (kK f (jD old[j].tag old[j].key) (some (aA (j:Int)))) nl j:=by
 have d:iA (fun k=>k=m) w w':=iA.WG hg (fun j hj _=>(Option.some.inj hj).symm);obtain⟨y,z⟩:=x.nx.ty (g:=h) rfl;obtain⟨r,l⟩:=x.own.ty (g:=g) rfl;have C:p≠m:=SJ x.map x.zA;have D:g≠m:=SJ x.map l;have E:h≠m:=SJ x.map z;refine⟨_,{x with
  zA:=(d.block p (JA x.zA) C).trans x.zA
  YF:=x.YF.VB (fun b _ F=>d.block b (IA x.le) (fun e=>by have:=x.Bm;omega))
  own:=x.own.but d (fun i o e=>D (by rw[<-e];exact Option.some.inj o))
  nx:=x.nx.but d (fun i o e=>E (by rw[<-e];exact Option.some.inj o))
  map:=hm.tight
  sz:=by have:=x.sz;split<;>omega
  nm:=fun t k u v G H=>?_
  aJ:=fun q I J a b=>?_}⟩
 ·by_cases e:jD t k=jD old[j].tag old[j].key
  ·obtain⟨rfl,rfl⟩:=Sc u v h1 h2 e;rw[Lb hj (SR.2 ⟨rfl,rfl⟩)];exact .inr (YL f _ _).1
  ·rw[(YL f _ _).2 _ e,QV hj]
   ·exact x.nm t k u v G H
   ·cases hx:bG t k old[j] with
    |false=>rfl
    |true=>
     obtain⟨rfl,rfl⟩:=SR.1 hx;exact absurd rfl e
 ·by_cases e:q=j
  ·subst e;exact hv
  ·exact x.aJ q I dA a b
theorem Nf.pass(x:Nf w B p g h m A n c old s f nl (j+1))(hj:j<old.length)(hn:old[j].tag.toList.isEmpty=true\/old[j].key.toList.isEmpty=true):Nf w B p g h m A n c old s f nl j:=
 {x with
  sz:=by have:=x.sz;omega
  nm:=fun t k l o d i=>by
   rw[QV hj]
   ·exact x.nm t k l o d i
   ·cases hx:bG t k old[j] with
    |false=>rfl
    |true=>
     obtain⟨rfl,rfl⟩:=SR.1 hx;rcases hn with h|h
     ·rw[h] at d;cases d
     ·rw[h] at i;cases i
  aJ:=fun q r u a b=>by
   by_cases e:q=j
   ·subst e;rcases hn with h|h
    ·rw[h] at a;cases a
    ·rw[h] at b;cases b
   ·exact x.aJ q r dA a b}
end
theorem GU{w wr:World}{p g h m:Nat}{A:vA}{n c:Nat}{old:List Ol}(hb:fA w wr)(hp:w.heap.size<=p)(hg:w.heap.size<=g)(hh:w.heap.size<=h)(hm:w.heap.size<=m)(ho:kO.AA w w.heap.size A old)(hl:old.length=n)(hs:n<=1000)
 (h1:wr.heap[p]? = some (.cells #[.slice A n c,.slice (some (cA g 0)) n n,aA 0,.map (some m),.slice (some (cA h 0)) n n] 313 (0,0)))
 (h2:wr.heap[g]? = some (.cells (madeCells #[.bool false] n) 4 (0,0))) (h3:wr.heap[h]? = some (.cells (madeCells #[aA 0] n) 3 (0,0))) (h4:wr.heap[m]? = some (.map #[] 0)):
 Nf wr w.heap.size p g h m A n c old 0 (fun _=>none) (List.replicate n 0) n where
 zA:=h1
 Bp:=hp
 Bm:=hm
 YF:=ho.below hb Zl
 own:=by
  rw[pt];exact Kind.OH FA hg h2 Zl TG (by rw[size_madeCells];exact(Nat.mul_one n).symm) (by
   rw[toList_madeCells_one,List.take_of_length_le (by simp[lL]),IZ])
 nx:=Kind.OH FA hh h3 Zl TG (by rw[size_madeCells];exact(Nat.mul_one n).symm) (by
  rw[toList_madeCells_one,List.take_of_length_le (by simp[kI]),YT])
 map:=⟨.map [],⟨#[],0,h4,⟨by simp,stamped_empty 0,by simp⟩,Zl,rfl⟩,rfl,fun _=>rfl⟩
 sz:=dA
 nm:=fun t k _ _ _ _=> .inl ⟨rfl,Kb dA⟩
 aJ:=fun j a b=>by omega
def Kx(w:World)(A:vA)(n c:Nat)(old:List Ol)(e:Ending)(w':World):Prop:=∃(p g h m:Nat) (s:Nat) (f:Lit->Option Value) (nl:List Int),e= .returned (lA p)/\Lf w' w.heap.size p g h m A n c old (List.replicate n true) 0 s f nl/\fA w w'
theorem Zf(old:List Ol)(A:Option Addr)(n c:Nat)(w:World)(hh:kO.AA w w.heap.size A old)(hsz:∀o∈old,o.tag.size<=maxLen/\o.key.size<=maxLen)(hn:old.length=n)(hs:n<=1000):
 Calls prog 201 #[.slice A n c] w (Kx w A n c old):=by
 have a4:=Yf n (by omega);have a5:=EY n (by omega);have am:=@run_makeMap prog;have T:=Zh hh;have O:=Zh hn;have HS:=Zh hsz;have C:=fun(wr:World) (p g h m:Nat)=>@GU w wr p g h m A n c old
 have C:=Zh C;clear hh hn hsz;obtain⟨ob,a6⟩:∃o,o=Obj.cells (madeCells #[.bool false] n) 4 (0,0):=⟨_,rfl⟩;obtain⟨oi,a7⟩:∃o,o=Obj.cells (madeCells #[.int .i64 0] n) 3 (0,0):=⟨_,rfl⟩;rw[<-a6] at a4 C;rw[<-a7] at a5 C;clear a6 a7;go_enter func201,ntmps201;go_upto_region 1 with fail;go_cut [3] (fun s3 wx=>∃(p g h m:Nat),s3= .pointer (some ⟨p,0,none⟩)/\Hid (Nf wx w.heap.size p g h m A n c old 0 (fun _=>none) (List.replicate n 0) n)/\Hid (Below w.heap.size w wx))
 case first=>
  go_region_held3 (fun _=>True) (trivial) (fail)
  all_goals (go_wp2_with fail;go_meet)
  ·exact⟨_,w.heap.size,w.heap.size+1+1,w.heap.size+1,rfl,Zh (C.out _ _ _ _ _ ((((((Below.refl w.heap.size w).alloc Zl _).alloc (by simp) _).alloc (by simp;omega) _).alloc (by simp;omega) _).drew) (by omega) (by omega) (by omega) (by omega) T.out O.out hs (P5.heap_drew (yD (by simp))) (P5.heap_drew (JB (JB (JB (yD (by simp)))))) (P5.heap_drew (JB (yD (by simp)))) (P5.heap_drew (JB (JB (yD (by simp)))))),Zh ((((((Below.refl w.heap.size w).alloc Zl _).alloc (by simp) _).alloc (by simp;omega) _).alloc (by simp;omega) _).drew)⟩
  ·exact⟨_,w.heap.size,w.heap.size+1,w.heap.size+1+1,rfl,Zh (C.out _ _ _ _ _ ((((((Below.refl w.heap.size w).alloc Zl _).alloc (by simp) _).alloc (by simp;omega) _).alloc (by simp;omega) _).drew) (by omega) (by omega) (by omega) (by omega) T.out O.out hs (P5.heap_drew (yD (by simp))) (P5.heap_drew (JB (JB (JB (yD (by simp)))))) (P5.heap_drew (JB (JB (yD (by simp))))) (P5.heap_drew (JB (yD (by simp))))),Zh ((((((Below.refl w.heap.size w).alloc Zl _).alloc (by simp) _).alloc (by simp;omega) _).alloc (by simp;omega) _).drew)⟩
  ·exact⟨_,w.heap.size+1,w.heap.size+1+1,w.heap.size,rfl,Zh (C.out _ _ _ _ _ ((((((Below.refl w.heap.size w).alloc Zl _).alloc (by simp) _).alloc (by simp;omega) _).alloc (by simp;omega) _).drew) (by omega) (by omega) (by omega) (by omega) T.out O.out hs (P5.heap_drew (yD (by simp))) (P5.heap_drew (JB (JB (yD (by simp))))) (P5.heap_drew (JB (yD (by simp)))) (P5.heap_drew (JB (JB (JB (yD (by simp))))))),Zh ((((((Below.refl w.heap.size w).alloc Zl _).alloc (by simp) _).alloc (by simp;omega) _).alloc (by simp;omega) _).drew)⟩
  ·exact⟨_,w.heap.size+1+1,w.heap.size+1,w.heap.size,rfl,Zh (C.out _ _ _ _ _ ((((((Below.refl w.heap.size w).alloc Zl _).alloc (by simp) _).alloc (by simp;omega) _).alloc (by simp;omega) _).drew) (by omega) (by omega) (by omega) (by omega) T.out O.out hs (P5.heap_drew (yD (by simp))) (P5.heap_drew (JB (yD (by simp)))) (P5.heap_drew (JB (JB (yD (by simp))))) (P5.heap_drew (JB (JB (JB (yD (by simp))))))),Zh ((((((Below.refl w.heap.size w).alloc Zl _).alloc (by simp) _).alloc (by simp;omega) _).alloc (by simp;omega) _).drew)⟩
  ·exact⟨_,w.heap.size+1,w.heap.size,w.heap.size+1+1,rfl,Zh (C.out _ _ _ _ _ ((((((Below.refl w.heap.size w).alloc Zl _).alloc (by simp) _).alloc (by simp;omega) _).alloc (by simp;omega) _).drew) (by omega) (by omega) (by omega) (by omega) T.out O.out hs (P5.heap_drew (yD (by simp))) (P5.heap_drew (JB (JB (yD (by simp))))) (P5.heap_drew (JB (JB (JB (yD (by simp)))))) (P5.heap_drew (JB (yD (by simp))))),Zh ((((((Below.refl w.heap.size w).alloc Zl _).alloc (by simp) _).alloc (by simp;omega) _).alloc (by simp;omega) _).drew)⟩
  ·exact⟨_,w.heap.size+1+1,w.heap.size,w.heap.size+1,rfl,Zh (C.out _ _ _ _ _ ((((((Below.refl w.heap.size w).alloc Zl _).alloc (by simp) _).alloc (by simp;omega) _).alloc (by simp;omega) _).drew) (by omega) (by omega) (by omega) (by omega) T.out O.out hs (P5.heap_drew (yD (by simp))) (P5.heap_drew (JB (yD (by simp)))) (P5.heap_drew (JB (JB (JB (yD (by simp)))))) (P5.heap_drew (JB (JB (yD (by simp)))))),Zh ((((((Below.refl w.heap.size w).alloc Zl _).alloc (by simp) _).alloc (by simp;omega) _).alloc (by simp;omega) _).drew)⟩
 case rest=>
  obtain⟨p,g,h,m,rfl,D,P⟩:=hcut;clear C a4 a5 am T;have HP:Hid (w.heap.size<=p/\w.heap.size<=g/\w.heap.size<=h/\w.heap.size<=m):=Zh ⟨D.out.Bp,(D.out.own.lt rfl).1,(D.out.nx.lt rfl).1,D.out.Bm⟩;have ST:=Zh (And.intro D P);clear D P;go_wp2_with fail
  go_loopg [4] n (fun q s4 wr=>∃(s:Nat) (f:Lit->Option Value) (U:List Int),q<=n/\s4= .int .i64 ((q:Int)-1)/\Hid (Nf wr w.heap.size p g h m A n c old s f U q)/\Hid (Below w.heap.size w wr))
  case atStart=>
   exact⟨0,_,_,Zl,rfl,ST.out.1,ST.out.2⟩
  case round=>
   obtain⟨s,f,U,hq,e4,D,P⟩:=hrel;clear ST;by_cases a8:gk=0
   ·subst a8;obtain rfl:=e4;have HL:=Zh (D.out.lf O.out hs HS.out);go_wp2_with fail;go_ret;exact⟨p,g,h,m,s,f,U,rfl,HL.out,P.out⟩
   ·obtain⟨j,rfl⟩:∃j,gk=j+1:=⟨gk-1,by omega⟩;have e5:u4= .int .i64 (j:Int):=(by rw[e4];congr 1;omega);subst e5;clear e4 a8;have E:j<old.length:=(by have:=O.out;omega);obtain⟨b,o,rfl,hb,z0,z1⟩:=QQ D.out.YF E;have J:=Zh (HS.out _ (List.getElem_mem E));obtain⟨tag,x⟩:=DA (old[j].tag);obtain⟨key,y⟩:=DA (old[j].key);rw[x,y] at J;rw[x] at z0;rw[y] at z1;have F:=Zh x;have G:=Zh y;clear x y;go_upto_region 6 with fail;have a9:Hid (w.heap.size<=wr.heap.size):=Zh P.out.size;have B1:Hid (Below wr.heap.size wr (wr.alloc (.cells #[.string tag,.string key] 289))):=Zh (Zb _ _);have Q:Hid ((wr.alloc (.cells #[.string tag,.string key] 289)).heap[wr.heap.size]? = some (.cells #[.string tag,.string key] 289 (0,0))):=Zh (heap_alloc_new wr _);generalize aa:wr.heap.size=d at Q a9 B1|-;rw[<-aa] at B1;generalize wr.alloc (.cells #[.string tag,.string key] 289)=W at B1 Q|-;have ab:=Zh (D.out.on B1.out);have BW:Hid (Below w.heap.size w W):=Zh (P.out.trans (B1.out.mono P.out.size));have ax:Hid (w.heap.size<=d):=a9;clear D P aa z0 z1 B1;have an:Hid (∀K,Below W.heap.size W K->K.heap[d]? = some (.cells #[.string tag,.string key] 289 (0,0))):=Zh (fun K h=>(h.block d (JA Q.out)).trans Q.out);have L:Hid (∀K,Below W.heap.size W K->K.cell? ⟨p,4,none⟩=some (.slice (some ⟨h,0,none⟩) n n)/\K.cell? ⟨d,0,none⟩=some (.string tag)/\K.cell? ⟨d,1,none⟩=some (.string key)):=Zh (fun K h=>⟨(ab.out.on h).c4,(h.cell (p:=⟨d,0,none⟩) (JA Q.out)).trans (cell_of_row W d 0 _ _ (0,0) Q.out),(h.cell (p:=⟨d,1,none⟩) (JA Q.out)).trans (cell_of_row W d 1 _ _ (0,0) Q.out)⟩);have CE:=Zh (cT tag key W);obtain⟨et,V⟩:=DA tag.toList.isEmpty;obtain⟨ek,ac⟩:=DA key.toList.isEmpty;rw[V] at CE;obtain⟨_,a0,a1⟩:=L.out W Ze;have ad:=Zh V;have ae:=Zh ac;clear V;go_wp2_with fail;refine CE.out.mono ?_;rintro e X ⟨rfl,b2⟩;have R:=Zh b2;have S:=Zh (ab.out.on b2);obtain⟨c4,a0,a1⟩:=L.out X b2;clear b2 CE;cases et with
    |true=>
     have XN:=Zh (S.out.pass E (.inl (by rw[F.out,ad.out])));go_wp2_with fail
     go_roundg j
     case measure=>omega
     case rel=>exact⟨s,f,U,by omega,by first|rfl|go_num,XN,Zh (BW.out.trans (R.out.mono BW.out.size))⟩
    |false=>
     cases ek with
     |true=>
      have XN:=Zh (S.out.pass E (.inr (by rw[G.out,ae.out])));go_wp2_with fail
      go_roundg j
      case measure=>omega
      case rel=>exact⟨s,f,U,by omega,by first|rfl|go_num,XN,Zh (BW.out.trans (R.out.mono BW.out.size))⟩
     |false=>
      obtain⟨a,ha⟩:=DA (MF old tag key (j+1));have HA:=Zh ha;have Y:j<n:=(by omega);have ao:Hid (∀w9,Below X.heap.size X w9->Calls prog 229 #[.pointer (some ⟨p,0,none⟩),.agg #[.string tag,.string key]] w9 fun e w'=>e= .returned (.int .i64 a)/\Below w9.heap.size w9 w'):=Zh (fun w9 hz=>DY (S.out.on hz).c3 (JA (S.out.on hz).zA) (S.out.on hz).map tag key J.out.1 J.out.2 a (by rw[<-ha];exact S.out.nm tag key J.out.1 J.out.2 ad.out ae.out));have M:Hid (Below w.heap.size w X):=Zh (BW.out.trans (R.out.mono BW.out.size));clear ha;go_upto_region 7 with fail;clear ac a0 a1;have SK:=L.out X R.out;go_region_held3 (fun w'=>w'.cell? ⟨p,4,none⟩=some (.slice (some ⟨h,0,none⟩) n n)/\w'.cell? ⟨d,0,none⟩=some (.string tag)/\w'.cell? ⟨d,1,none⟩=some (.string key)) (first|go_keep|exact SK|exact af) ((first
       |(go_at_call 229;refine(ao.out _ (by first|exact OC Ze _|exact Ze.drew|exact Ze)).mono ?_;rintro e l ⟨rfl,N⟩;have z:Hid (Below X.heap.size X l):=Zh (by first|exact(OC Ze _).trans N|exact(Ze.drew).trans N|exact N);have B:=Zh (S.out.on z.out);have SK:=L.out l (R.out.trans (z.out.mono R.out.size));obtain⟨ap,ag,_⟩:=xT B.out.nx (k:=j) (by rw[B.out.yW];exact Y) a;obtain⟨ay,ah⟩:=Option.isSome_iff_exists.1 ag;have u:=Zh (B.out.set Y a);have Z:Hid (Below w.heap.size w (l.setCell ⟨h,j,none⟩ (.int .i64 a))):=Zh ((M.out.trans (z.out.mono M.out.size)).trans ((jJ l h j _).eD (fun i _ hi=>by have:=(B.out.nx.lt (g:=h) rfl).1;omega) (M.out.trans (z.out.mono M.out.size)).size));have v:Hid ((l.setCell ⟨h,j,none⟩ (.int .i64 a)).heap[d]? = some (.cells #[.string tag,.string key] 289 (0,0))):=Zh (by have h5:=an.out l (R.out.trans (z.out.mono R.out.size));obtain⟨az,hc⟩:=B.out.nx.ty (g:=h) rfl;exact((jJ l h j _).block d (JA h5) (WA h5 hc (by decide))).trans h5);have af:(l.setCell ⟨h,j,none⟩ (.int .i64 a)).cell? ⟨p,4,none⟩=some (.slice (some ⟨h,0,none⟩) n n)/\(l.setCell ⟨h,j,none⟩ (.int .i64 a)).cell? ⟨d,0,none⟩=some (.string tag)/\(l.setCell ⟨h,j,none⟩ (.int .i64 a)).cell? ⟨d,1,none⟩=some (.string key):=⟨u.out.c4,cell_of_row _ d 0 _ _ (0,0) v.out,cell_of_row _ d 1 _ _ (0,0) v.out⟩;clear N ag)
       |fail))
      generalize l.setCell ⟨h,j,none⟩ (.int .i64 a)=H at u Z v|-;clear ap ah B z;have HV:Hid ((U.set j a)[j]? = some (MF old old[j].tag old[j].key (j+1))):=Zh (by rw[F.out,G.out,HA.out,List.getElem?_set_self (by rw[S.out.yW];exact Y)]);have ai:Hid (keyOf prog 289 (.agg #[.string tag,.string key])=some (jD tag key)):=Zh (VP J.out.1 J.out.2);have hsz:=u.out.sz;obtain⟨r,aq,aj,ak⟩:=(u.out.map.kept (w':=H.drew) rfl).store (Maps.Keyed.of_law eQ) underlying311 (by unfold maxLen;omega) (val:=.int .i64 (j:Int)) ai.out (YL f (jD tag key) (some (.int .i64 (j:Int))));have a2:=Zh (AY ak);have al:Hid (∃s',Nf r w.heap.size p g h m (some ⟨b,o,none⟩) n c old s' (kK f (jD tag key) (some (.int .i64 (j:Int)))) (U.set j a) j):=Zh (by
       have:=u.out.name (w':=r) E (by rw[F.out];exact J.out.1) (by rw[G.out];exact J.out.2) HV.out (by rw[F.out,G.out];exact aj) a2.out;rw[F.out,G.out] at this;exact this)
      have ar:Hid (Below w.heap.size w r):=Zh (Z.out.grown a2.out Z.out.size (fun i hi=>by have:=u.out.Bm;have:=Option.some.inj hi;omega));have c3:=u.out.c3;have a0:H.cell? ⟨d,0,none⟩=some (.string tag):=cell_of_row H d 0 _ _ (0,0) v.out;have a1:H.cell? ⟨d,1,none⟩=some (.string key):=cell_of_row H d 1 _ _ (0,0) v.out;have a3:r.heap[d]? = some (.cells #[.string tag,.string key] 289 (0,0)):=(a2.out.block d (JA v.out) (fun e=>SJ u.out.map v.out (Option.some.inj e))).trans v.out;obtain⟨au,I⟩:=al.out;have av:r.cell? ⟨p,3,none⟩=some (.map (some m))/\r.cell? ⟨d,0,none⟩=some (.string tag)/\r.cell? ⟨d,1,none⟩=some (.string key):=⟨I.c3,cell_of_row r d 0 _ _ (0,0) a3,cell_of_row r d 1 _ _ (0,0) a3⟩;have aw:=Zh I;clear aj ak a3 I al af SK;go_upto_region 8 with fail;go_region_held3 (fun w'=>w'.cell? ⟨p,3,none⟩=some (.map (some m))/\w'.cell? ⟨d,0,none⟩=some (.string tag)/\w'.cell? ⟨d,1,none⟩=some (.string key)) (first|go_keep|exact av) (fail);go_wp2_with fail
      go_roundg j
      case measure=>omega
      case rel=>exact⟨au,_,_,by omega,by first|rfl|go_num,aw,ar⟩
end P16
namespace P10
open Go.RowKit Kd P4 P5 P8 P9
theorem Aj{l:uA}{c:UInt8}{k:Nat}(h:P2.VF l=some (c,k)):1<=k/\k<=l.length:=by
 obtain⟨a,rfl⟩:=P2.cX h;obtain⟨r,rfl⟩:=P2.xO.1 a;have:=(P2.ZM c).1;simp;omega
theorem Q6:∀(n:Nat) (l r:uA),P2.SG n l=some r->r.length<=l.length
 |0,l,r,h=>by
  rw[P2.SG] at h;split at h
  ·cases h;simp
  ·cases h
 |n+1,l,r,h=>by
  rw[P2.SG] at h;split at h
  ·cases h;simp
  ·cases e:P2.VF l with
   |none=>rw[e] at h;cases h
   |some p=>
    obtain⟨c,k⟩:=p;rw[e] at h;simp only[Option.map_eq_some_iff] at h;obtain⟨r',h1,rfl⟩:=h;have h2:=Q6 n _ _ h1;have h3:=Aj e;simp only[List.length_drop,List.length_cons] at h2|-;omega
theorem MQ(l:uA):(GG l).length<=l.length:=by
 unfold GG;cases h:P2.EM l with
 |none=>simp
 |some r=>exact Q6 _ _ _ h
def wA(l:List P3.At):Nat:=(l.map (fun a=>a.nm.size+a.vl.size+1)).sum
mutual
def wP:PT->Nat
 | .mk tag txt key attrs kids=>tag.size+txt.size+key.size+wA attrs+wL kids+1
def wL:List PT->Nat
 |[]=>0
 |a:: l=>wP a+wL l
end
theorem uZ(l m:List P3.At):wA (l++m)=wA l+wA m:=by simp[wA]
theorem zL:∀l m:List PT,wL (l++m)=wL l+wL m
 |[],m=>by simp[wL]
 |a:: l,m=>by simp[wL,zL l m];omega
theorem NF(l:uA):(bs l).size=l.length:=by show l.toArray.size=_;simp
theorem pd:(⟨#[]⟩:qA).size=0:=rfl
theorem Xa(l:uA):wP (xG l)=l.length+1:=by
 rw[xG,wP,NF,pd];simp[wA,wL]
theorem sM(tag:uA)(ats:List P3.At)(kids:List PT):wP (rG tag ats kids)=tag.length+wA ats+wL kids+1:=by
 rw[rG,wP,NF,pd];omega
theorem U6:∀(f:Nat) (s:uA) (acc ats:List P3.At) (o:Option (uA)),fH f s acc=(ats,o)->wA ats+(o.getD []).length<=wA acc+s.length
 |0,s,acc,ats,o,h=>by
  simp only[fH,Prod.mk.injEq] at h;obtain⟨rfl,rfl⟩:=h;simp
 |f+1,s,acc,ats,o,h=>by
  rw[fH] at h;split at h
  ·rename_i hs;obtain⟨r0,rfl⟩:∃r0,s=32:: r0:=by
    cases s with
    |nil=>simp at hs
    |cons c r=>simp at hs;exact⟨r,by rw[hs]⟩
   have hn:=sN (32:: r0) [61];simp only at h;split at h
   ·cases h;simp
   ·rename_i hr;simp only[List.length_drop,List.length_cons] at hr;generalize hu:kD (32:: r0) [61]=n at h hn hr;generalize hr2:((32:: r0).drop n).drop 2=r2 at h;have hl2:r2.length+n+1=r0.length:=(by rw[<-hr2];simp only[List.length_drop,List.length_cons];omega);have hk:=sN r2 [34];generalize kD r2 [34]=k at h hk;have h3:=MQ (r2.take k);have hw:wA (acc++[(⟨bs (((32:: r0).take n).drop 1),bs (GG (r2.take k)),false⟩:P3.At)])<=wA acc+(n+k)+1:=by
     rw[uZ];simp only[wA,List.map_cons,List.map_nil,List.sum_cons,List.sum_nil,NF,List.length_drop,List.length_take] at h3|-;omega
    split at h
    ·rename_i he;simp only[Prod.mk.injEq] at h;obtain⟨rfl,rfl⟩:=h;simp only[Option.getD_none,List.length_nil,List.length_cons];omega
    ·have:=U6 f _ _ _ _ h;simp only[List.length_drop,List.length_cons] at this|-;omega
  ·simp only[Prod.mk.injEq] at h;obtain⟨rfl,rfl⟩:=h;simp
theorem ew{g:Nat->uA->List PT×uA}{d:Nat}{s:uA}(hs:s.head? = some 60)(hg:∀d r,wL (g d r).1+2*(g d r).2.length<=2*r.length):wP (ZH g d s).1+2*(ZH g d s).2.length<=2*s.length/\(ZH g d s).2.length<s.length:=by
 obtain⟨r0,rfl⟩:∃r0,s=60:: r0:=by
  cases s with
  |nil=>simp at hs
  |cons c r=>simp at hs;exact⟨r,by rw[hs]⟩
 unfold ZH;have b:=sN (60:: r0) [32,62];have e:1<=kD (60:: r0) [32,62]:=(by rw[VO pA];omega);generalize kD (60:: r0) [32,62]=n at b e;simp only;have i:(((60:: r0).take n).drop 1).length=n-1:=(by simp only[List.length_drop,List.length_take,List.length_cons] at b|-;omega);generalize ((60:: r0).take n).drop 1=tag at i;have f:((60:: r0).drop n).length+n=(60:: r0).length:=(by simp only[List.length_drop];omega);generalize (60:: r0).drop n=r at f;simp only[List.length_cons] at f b|-;have a:=U6 (r.length+1) r [] (fH (r.length+1) r []).1 (fH (r.length+1) r []).2 rfl;generalize fH (r.length+1) r []=q at a;obtain⟨j,o⟩:=q;simp only[wA,List.map_nil,List.sum_nil,Nat.zero_add] at a;cases o with
 |none=>
  simp only[sM,wL,List.length_nil,Option.getD_none] at a|-;simp only[wA];omega
 |some r1=>
  cases r1 with
  |nil=>
   simp only[sM,wL,List.length_nil,Option.getD_some] at a|-;simp only[wA];omega
  |cons c r2=>
   simp only[Option.getD_some,List.length_cons] at a|-;split
   ·simp only[sM,wL,wA];omega
   ·have k:=hg (d+1) r2;generalize g (d+1) r2=p at k;split
    ·simp only[sM,wA,List.length_nil];omega
    ·simp only[sM,wA,List.length_drop];omega
theorem xS:∀(f d:Nat) (s:uA) (acc:List PT),wL (gF f d s acc).1+2*(gF f d s acc).2.length<=wL acc+2*s.length
 |0,d,s,acc=>by rw[gF];exact Zl
 |f+1,d,s,acc=>by
  rw[gF];split
  ·exact Zl
  ·rename_i h0;split
   ·rename_i h60;split
    ·exact Zl
    ·have hE:=ew (g:=fun d s=>gF f d s []) (d:=d) h60 (fun d r=>by have:=xS f d r [];simp only[wL] at this|-;omega);simp only;split
     ·simp only[zL,wL,List.length_nil];omega
     ·have:=xS f d (ZH (fun d s=>gF f d s []) d s).2 (acc++[(ZH (fun d s=>gF f d s []) d s).1]);simp only[zL,wL] at this;omega
   ·rename_i h60;simp only;have h1:1<=kD s [60]:=by
     cases s with
     |nil=>simp at h0
     |cons c r=>
      rw[VO (by
       simp only[List.head?_cons,Option.some.injEq] at h60;simpa using h60)]
      omega
    have h2:=sN s [60];have h3:=MQ (s.take (kD s [60]));have:=xS f d (s.drop (kD s [60])) (acc++[xG (GG (s.take (kD s [60])))]);rw[List.length_take] at h3;simp only[zL,wL,Xa,List.length_drop] at this;omega
theorem qd:∀{l:List P3.At} {a:P3.At},a∈l->a.nm.size+a.vl.size+1<=wA l
 |b:: l,a,h=>by
  rcases List.mem_cons.1 h with rfl|h
  ·simp[wA]
  ·have:=qd h;simp[wA] at this|-;omega
theorem Fc:∀l:List P3.At,l.length<=wA l
 |[]=>by simp[wA]
 |a:: l=>by have:=Fc l;simp[wA] at this|-;omega
theorem pS:∀{l:List PT} {t:PT},t∈l->wP t<=wL l
 |b:: l,a,h=>by
  rcases List.mem_cons.1 h with rfl|h
  ·simp only[wL];omega
  ·have:=pS h;simp only[wL];omega
theorem Eu(t:PT):1<=wP t:=by cases t;simp[wP]
theorem YN:∀l:List PT,l.length<=wL l
 |[]=>by simp
 |a:: l=>by have:=YN l;have:=Eu a;simp[wL];omega
theorem zx(t:PT):wP t<=100000->XH t=true:=by
 induction t using PT.ind with
 |h tag txt key attrs kids ih=>
  intro h;rw[wP] at h;have c:KG attrs=true:=by
   unfold KG;rw[Bool.and_eq_true,decide_eq_true_eq,List.all_eq_true];refine⟨by have:=Fc attrs;omega,fun a d=>?_⟩;have:=qd d;simp only[Bool.and_eq_true,decide_eq_true_eq];omega
  rw[XH,c,kP];simp only[Bool.and_eq_true,decide_eq_true_eq,List.all_eq_true];have:=YN kids;exact⟨⟨⟨⟨⟨by omega,by omega⟩,by omega⟩,trivial⟩,by omega⟩,fun k b=>ih k b (IA (pS b))⟩
theorem fw{l:List PT}(h:wL l<=100000):jD l=true:=by
 rw[kP,List.all_eq_true];exact fun t a=>zx t (IA (pS a))
theorem Y6:∀l:List P3.At,(EB l).length<=6*wA l
 |[]=>by simp[EB]
 |a:: l=>by
  have h1:=Y6 l;have h2:=P2.rN a.vl.data.toList;simp only[EB,wA,List.flatMap_cons,List.length_append,List.map_cons,List.sum_cons,uJ,List.length_cons,List.length_nil,Array.length_toList,ByteArray.size_data] at h1 h2|-;omega
theorem Fu(t:PT):(wC t).length<=6*wP t:=by
 induction t using PT.ind with
 |h tag txt key attrs kids ih=>
  have b:∀l:List PT,(∀k∈l,(wC k).length<=6*wP k)->(dB l).length<=6*wL l:=by
   intro l
   induction l with
   |nil=>intro _;simp[dB]
   |cons a l ihl=>
    intro h;have c:=h a FA;have d:=ihl (fun k e=>h k (by simp[e]));rw[dB,wL,List.length_append];omega
  have c:=b kids ih;have d:=Y6 attrs;have f:=P2.rN txt.data.toList;rw[wC,wP];simp only[Array.length_toList,ByteArray.size_data] at f;split
  ·omega
  ·simp only[List.length_cons,List.length_append,Array.length_toList,ByteArray.size_data];split
   ·simp;omega
   ·simp only[List.length_cons,List.length_append,List.length_nil,Array.length_toList,ByteArray.size_data];omega
theorem Gc:∀l:List PT,(dB l).length<=6*wL l
 |[]=>by simp[dB]
 |a:: l=>by
  have h1:=Fu a;have h2:=Gc l;rw[dB,wL,List.length_append];omega
mutual
def gH:PT->Bool
 | .mk _ _ key attrs kids=>key.toList.isEmpty&&attrs.all (fun a=>!a.st)&&mE kids
def mE:List PT->Bool
 |[]=>true
 |a:: l=>gH a&&mE l
end
theorem yO:∀l m:List PT,mE (l++m)=(mE l&&mE m)
 |[],m=>by simp[mE]
 |a:: l,m=>by simp[mE,yO l m,Bool.and_assoc]
theorem lU:(⟨#[]⟩:qA).toList.isEmpty=true:=by rw[ByteArray.toList_eq];rfl
theorem vZ(l:uA):gH (xG l)=true:=by rw[xG,gH,lU];simp[mE]
theorem cM(tag:uA){ats:List P3.At}{kids:List PT}(h1:ats.all (fun a=>!a.st)=true)(h2:mE kids=true):gH (rG tag ats kids)=true:=by rw[rG,gH,lU,h1,h2];rfl
theorem DX:∀(f:Nat) (s:uA) (acc:List P3.At),acc.all (fun a=>!a.st)=true->(fH f s acc).1.all (fun a=>!a.st)=true
 |0,s,acc,h=>by rw[fH];exact h
 |f+1,s,acc,h=>by
  rw[fH];split
  ·simp only;split
   ·exact h
   ·split
    ·rw[List.all_append,h];rfl
    ·exact DX f _ _ (by rw[List.all_append,h];rfl)
  ·exact h
theorem En{g:Nat->uA->List PT×uA}{d:Nat}{s:uA}(hg:∀d r,mE (g d r).1=true):gH (ZH g d s).1=true:=by
 unfold ZH;simp only;have a:=DX ((s.drop (kD s [32,62])).length+1) (s.drop (kD s [32,62])) [] rfl;generalize fH ((s.drop (kD s [32,62])).length+1) (s.drop (kD s [32,62])) []=q at a;obtain⟨b,o⟩:=q;cases o with
 |none=>exact cM _ a rfl
 |some r1=>
  cases r1 with
  |nil=>exact cM _ a rfl
  |cons c r2=>
   simp only;split
   ·exact cM _ a rfl
   ·split
    ·exact cM _ a (hg _ _)
    ·exact cM _ a (hg _ _)
theorem FR:∀(f d:Nat) (s:uA) (acc:List PT),mE acc=true->mE (gF f d s acc).1=true
 |0,d,s,acc,h=>by rw[gF];exact h
 |f+1,d,s,acc,h=>by
  rw[gF];split
  ·exact h
  ·split
   ·split
    ·exact h
    ·have hE:=En (g:=fun d s=>gF f d s []) (d:=d) (s:=s) (fun d r=>FR f d r [] rfl);have hacc:mE (acc++[(ZH (fun d s=>gF f d s []) d s).1])=true:=(by rw[yO,h,mE,hE];rfl);simp only;split
     ·exact hacc
     ·exact FR f _ _ _ hacc
   ·exact FR f _ _ _ (by rw[yO,h,mE,vZ];rfl)
mutual
def vI:PT->Bool
 | .mk _ _ _ _ kids=>sG kids false
def sG:List PT->Bool->Bool
 |[],_=>true
 | a:: l,prev=>vI a&&(!a.tag.toList.isEmpty || (!a.txt.toList.isEmpty && !prev))&&sG l a.tag.toList.isEmpty
end
theorem sd(t:PT):jL t=(gH t&&vI t)/\∀l,(∀k∈l,jL k=(gH k&&vI k))->∀p,YH l p=(mE l&&sG l p):=by
 have key:∀l:List PT,(∀k∈l,jL k=(gH k&&vI k))->∀p,YH l p=(mE l&&sG l p):=by
  intro l
  induction l with
  |nil=>intro _ p;simp[YH,mE,sG]
  |cons a l ih=>
   intro h p;rw[YH,mE,sG,h a FA,ih (fun k b=>h k (by simp[b]))];cases gH a<;>cases vI a<;>cases mE l<;>simp
 refine⟨?_,key⟩
 induction t using PT.ind with
 |h tag txt key' attrs kids ih=>
  rw[jL,gH,vI,key kids ih];cases key'.toList.isEmpty<;>cases attrs.all (fun a=>!a.st)<;>simp
theorem cS(l:List PT)(p:Bool):YH l p=(mE l&&sG l p):=(sd (.mk ⟨#[]⟩ ⟨#[]⟩ ⟨#[]⟩ [] [])).2 l (fun k _=>(sd k).1) p
def GV(s:uA)(l:List PT):Prop:=gD l=true/\YH l false=true/\yH l<=200/\dB l=s
def KI(s:uA):List PT×uA:=gF (s.length+1) 0 s []
theorem th{s:uA}{l:List PT}(h:GV s l):KI s=(l,[]):=by
 obtain⟨a,b,c,rfl⟩:=h;have:=Yv _ l ((dB l).length+1) 0 [] [] false Zl FA a b (.inl rfl) dA;simpa[KI] using this
def JD(s:uA):List PT×Nat:=
 if 6000<s.length then([],13)
 else if gD (KI s).1&&decide (dB (KI s).1=s)&&sG (KI s).1 false&&decide (yH (KI s).1<=200) then((KI s).1,0)
 else([],7)
theorem Gn{s:uA}{l:List PT}(hs:s.length<=6000)(h:GV s l):JD s=(l,0):=by
 have b:=th h;obtain⟨c,a,d,e⟩:=h;rw[cS,Bool.and_eq_true] at a;rw[JD,if_neg dA,b];simp[c,a.2,d,e]
theorem Br{s:uA}(hs:s.length<=6000)(h:∀l,¬GV s l):JD s=([],7):=by
 rw[JD,if_neg dA,if_neg];intro a;simp only[Bool.and_eq_true,decide_eq_true_eq] at a;refine h (KI s).1 ⟨a.1.1.1,?_,a.2,a.1.1.2⟩;rw[cS,a.1.2,Bool.and_true];exact FR _ _ _ _ rfl
theorem Bj{s:uA}(hs:6000<s.length):JD s=([],13):=by rw[JD,if_pos hs]
theorem Cr(s:uA):wL (KI s).1<=2*s.length:=by
 have:=xS (s.length+1) 0 s [];simp only[wL] at this;unfold KI;omega
end P10
namespace P9
open Go.RowKit Kd P4 P5 P8
end P9
namespace P10
open Go.RowKit Kd P4 P5 P8 P9
theorem LK{ts:List TV}{k:Nat}(h:k<ts.length)(h':k<(yA ts).length):(yA ts)[k]=er ts[k]:=by simp[nC]
theorem aF(t:TV):er t= .mk t.tag t.txt t.key t.attrs (yA t.kids):=by cases t;rw[er];rfl
end P10
namespace P16
open Go.RowKit Kd P4 P5 P11 P12 P13 P14 Mv
theorem Jx{x:PW}(h:tC x)(h1:x.kind=1):x.tag.toList.isEmpty=false/\x.tag.size<=maxLen/\x.key.size<=maxLen:=by
 have d:∀{a:qA},P1.JC a.data.toList=true->a.toList.isEmpty=false:=fun {a} h=>by
  rw[ByteArray.toList_eq];cases e:a.data.toList with
  |nil=>rw[e] at h;cases h
  |cons _ _=>rfl
 have f:∀{l:uA},P1.dC l=true->P1.JC l=true:=fun {l} h=>by
  unfold P1.dC at h;simp only[Bool.or_eq_true,beq_iff_eq] at h;rcases h with((h|h)|h)|h<;>rw[h]<;>decide
 have b:∀{n:Nat},n<=300->n<=maxLen:=fun h=>by unfold maxLen;omega
 cases h with
 |@el tag key attrs kids hm _ _=>
  have c:=DQ hm;simp only at c;simp only[UB,if_true,Bool.and_eq_true,Bool.not_eq_true'] at hm;exact⟨d hm.1.1,b (by show tag.size<=300;omega),b (by show key.size<=300;omega)⟩
 |@vo tag key attrs hm _=>
  have c:=DQ hm;simp only at c;exact⟨d (f (wK hm)),b (by show tag.size<=300;omega),b (by show key.size<=300;omega)⟩
 |tx=>simp[PW.kind] at h1
 |nd=>simp[PW.kind] at h1
 |al=>simp[PW.kind] at h1
theorem ot{x:PW}(h:tC x):x.kind=1\/x.kind=2\/x.kind=3\/x.kind=4:=by
 cases h<;>simp[PW.kind]
theorem FH.of{w W:World}{B p g h m:Nat}{A:vA}{n c:Nat}{old:List Ol}{left:List Bool}{a:Int}{e:Ending}{w':World}(hb:fA w W)(x:FH W B p g h m A n c old left a e w'):FH w B p g h m A n c old left a e w':=
 ⟨x.1,x.2.1,(iA.oB hb (W3 p g m)).trans x.2.2 (fun _ _ h=>h)⟩
theorem IU{w:World}{B p g h m:Nat}{A:Option Addr}{n c:Nat}{old:List Ol}{left:List Bool}{F s:Nat}{f:Lit->Option Value}{nl:List Int}(x:Lf w B p g h m A n c old left F s f nl)(t:WV)(hw:tC (er t)):
 Calls prog 202 #[.pointer (some ⟨p,0,none⟩),.agg #[.int .i64 t.kind,.string t.tag,.string t.key,.string t.txt,.slice t.sa.A t.sa.n t.sa.c,.slice t.sk.A t.sk.n t.sk.c]] w (FH w B p g h m A n c old left (tB (er t) old left old.length).1):=by
 have G:=ot hw;have C:=Jx hw;obtain⟨kind,i,d,k,sa,a,sk,T⟩:=t;rw[aF] at G C|-;simp only[WV.kind,WV.tag,WV.key,WV.txt,WV.sa,WV.sk,WV.attrs,WV.kids] at G C|-;generalize yA T=kids at G C|-;obtain⟨H,I,J⟩:=sa;obtain⟨K,L,M⟩:=sk;simp only[PW.kind,PW.tag,PW.key] at G C;have v:Hid (Below w.heap.size w (w.alloc (.cells #[.int .i64 kind,.string i,.string d,.string k,.slice H I J,.slice K L M] 268))):=Zh (Zb _ _);have y:Hid ((w.alloc (.cells #[.int .i64 kind,.string i,.string d,.string k,.slice H I J,.slice K L M] 268)).heap[w.heap.size]? = some (.cells #[.int .i64 kind,.string i,.string d,.string k,.slice H I J,.slice K L M] 268 (0,0))):=Zh (heap_alloc_new w _);have D:=Zh (x.alloc (.cells #[.int .i64 kind,.string i,.string d,.string k,.slice H I J,.slice K L M] 268));have R:Hid (w.heap.size≠p):=Zh (by have:=x.GJ;omega);have U:=Zh C;clear x C hw;go_enter func202,ntmps202;go_upto_region 1 with fail;generalize V:w.heap.size=q at y R v|-;rw[<-V] at v;generalize (w.alloc (.cells #[.int .i64 kind,.string i,.string d,.string k,.slice H I J,.slice K L M] 268))=W at v y D|-;have Y:W.cell? ⟨q,0,none⟩=some (.int .i64 kind):=cell_of_row W q 0 _ _ (0,0) y.out;have Z:W.cell? ⟨q,1,none⟩=some (.string i):=cell_of_row W q 1 _ _ (0,0) y.out;have a2:W.cell? ⟨q,2,none⟩=some (.string d):=cell_of_row W q 2 _ _ (0,0) y.out;obtain⟨X,z⟩:=DA d.toList.isEmpty;rcases G with rfl|rfl|rfl|rfl
 ·obtain⟨N,O,P⟩:=U.out rfl;cases X with
  |false=>
   have l:=Zh (Le D.out (.mk 1 i d k a kids) rfl N z O P);simp only[PW.tag,PW.key] at l;clear N O P;go_wp2_with fail;refine l.out.mono ?_;rintro e Q r;have u:=Zh (FH.of v.out r);obtain⟨rfl,_⟩:=r;clear l;go_wp2_with fail;go_ret;exact u.out
  |true=>
   have l:=Zh (De D.out (.mk 1 i d k a kids) (wT (by rintro⟨_,h⟩;simp only[PW.key] at h;rw[z] at h;cases h)) q (fun o E S=>fk (.mk 1 i d k a kids) o q E rfl N z (cell_of_row E q 1 _ _ (0,0) ((S.block q (JA y.out) R.out).trans y.out)) (by have:=S.size;have:=JA y.out;omega)));clear N O P;go_wp2_with fail;refine l.out.mono ?_;rintro e Q r;have u:=Zh (FH.of v.out r);obtain⟨rfl,_⟩:=r;clear l;go_wp2_with fail;go_ret;exact u.out
 ·have l:=Zh (Ee D.out (.mk 2 i d k a kids) (wT (by rintro⟨h,_⟩;simp[PW.kind] at h)) (fun o E _=>ik (.mk 2 i d k a kids) o E rfl));go_wp2_with fail;refine l.out.mono ?_;rintro e Q r;have u:=Zh (FH.of v.out r);obtain⟨rfl,_⟩:=r;clear l;go_wp2_with fail;go_ret;exact u.out
 ·have l:=Zh (Fe D.out (.mk 3 i d k a kids) (wT (by rintro⟨h,_⟩;simp[PW.kind] at h)) (fun o E _=>jk (.mk 3 i d k a kids) o E rfl));go_wp2_with fail;refine l.out.mono ?_;rintro e Q r;have u:=Zh (FH.of v.out r);obtain⟨rfl,_⟩:=r;clear l;go_wp2_with fail;go_ret;exact u.out
 ·have u:Hid (FH w B p g h m A n c old left (tB (.mk 4 i d k a kids) old left old.length).1 (.returned (.int .i64 (-1))) W):=Zh (FH.of v.out (by
   have:(tB (.mk 4 i d k a kids) old left old.length).1 = -1:=PZ (fun j _ o _ f=>by simp[fD,PW.kind]) _;rw[this];exact⟨rfl,⟨F,s,f,nl,by rw[rK];exact D.out⟩,iA.refl _ _⟩))
  go_wp2_with fail;go_ret;exact u.out
structure xW(w:World)(B p g h m:Nat)(A:vA)(n c:Nat)(old:List Ol)(left:List Bool)(s:Nat)(f:Lit->Option Value)(nl:List Int)(q:Nat)(a:Int)(A3:vA)(n3 c3:Nat)(wr:World):Prop where
 lf:Lf wr B p g h m A n c old (TF left q) q s f nl
 own:kI.Own wr w.heap.size (.slice A3 n3 c3) (yF left q)
 fr:(q=n/\a = -1)\/(q<n/\a=(q:Int)/\left[q]? = some true)
 but:iA (W3 p g m) w wr
def Ix(w:World)(B p g h m:Nat)(A:vA)(n c:Nat)(old:List Ol)(left:List Bool)(e:Ending)(w':World):Prop:=∃(A3:vA) (n3 c3:Nat),e= .returned (.slice A3 n3 c3)/\kI.Own w' w.heap.size (.slice A3 n3 c3) (yF left n)/\vO w' B p g h m A n c old (List.replicate n false)/\iA (W3 p g m) w w'
theorem U8{w wa wr:World}{B p g h m:Nat}{A:vA}{n c:Nat}{old:List Ol}{left:List Bool}{s:Nat}{f:Lit->Option Value}{nl:List Int}{q F' F0:Nat}{l0:List Bool}{a:Int}{v:Value}(hq:q<=n)(hl:left.length=n)
 (hb:iA (W3 p g m) w wa) (ho:kI.Own wa w.heap.size v (yF left q)) (x0:Lf wa B p g h m A n c old l0 F0 s f nl) (hf:te (TF left q) n F' a) (hle:q<=F') (x:Lf wr B p g h m A n c old (TF left q) F' s f nl) (hb2:iA (fun k=>k=p) wa wr):
 Lf wr B p g h m A n c old (TF left F') F' s f nl/\kI.Own wr w.heap.size v (yF left F')/\((F'=n/\a = -1)\/(F'<n/\a=(F':Int)/\left[F']? = some true))/\iA (W3 p g m) w wr:=by
 have o:F'<=n:=x.front;obtain⟨d,j⟩:=VT (left:=left) (q:=q) (F'-q) (fun i b l=>by
  have:=x.gone i dA;rw[RZ b dA] at this;exact this) dA
 rw[show q+(F'-q)=F' by omega] at d j;refine⟨by rw[d];exact x,?_,?_,hb.trans (hb2.mono (T:=W3 p g m) (fun _ _ h=> .inl h)) (fun _ _ h=>h)⟩
 ·rw[j];exact ho.but hb2 (fun i r e=>x0.nL ho i r (.inl e))
 ·rcases hf with h|⟨b,l,h3⟩
  ·exact .inl h
  ·rw[RZ hle dA] at h3;exact .inr ⟨b,l,h3⟩
theorem pk{S:Nat->Prop}{w W w':World}(h:iA S w W)(hb:Below w.heap.size W w'):iA S w w':=
 h.trans (T:=fun i=>w.heap.size<=i) ⟨hb.os,hb.tape,hb.output,hb.size,fun i _ a=>hb.block i dA⟩ (fun i b c=>by omega)
theorem JX{w:World}{B p g h m:Nat}{A:vA}{n c:Nat}{old:List Ol}{left:List Bool}{F s:Nat}{f:Lit->Option Value}{nl:List Int}(x:Lf w B p g h m A n c old left F s f nl):
 jA 203 #[lA p] w (Ix w B p g h m A n c old left):=by
 have H:=Zh (gI x);have t:=Zh x.IM;have a2:=x.small;have j:=VT (left:=left) (q:=0) F (fun i _ u=>x.gone i dA) (by have:=x.front;have:=x.IM;omega);rw[Nat.zero_add,Bf] at j;have X0:Hid (Lf w B p g h m A n c old (TF left F) F s f nl):=Zh (by rw[j.1];exact x);have I0:=Zh j.2;have y:=Zh j.1;have N:=x.front;have I:Hid (B<=w.heap.size/\p<w.heap.size/\g<w.heap.size/\h<w.heap.size/\m<w.heap.size):=Zh ⟨x.le,x.GJ,(x.own.lt rfl).2,(x.nx.lt rfl).2,x.map.lt⟩;clear x j;go_enter func203,ntmps203;go_wp2_with fail;refine H.mono ?_;rintro e w1 ⟨O,a,rfl,b,P,x1,b1⟩;have ST:Hid (xW w B p g h m A n c old left s f nl O a none 0 0 w1):=Zh (by
  obtain⟨z,u,C,Q⟩:=U8 (w:=w) (v:=tA) N t (iA.refl _ _) (by rw[I0.out];exact Kind.Own.nil kI w _) X0 (by rw[y.out];exact b) P (by rw[y.out];exact x1) b1;exact⟨z,u,C,Q⟩)
 clear H b x1 b1 X0 I0 y;go_wp2_with fail
 go_loopg [3,4] (n-O) (fun k s3 s4 wr=>∃(q:Nat) (a:Int) (D:vA) (E G:Nat),k=n-q/\s3= .slice D E G/\s4 = aA a/\Hid (xW w B p g h m A n c old left s f nl q a D E G wr))
 case atStart=>exact⟨O,a,none,0,0,rfl,rfl,rfl,ST⟩
 case round=>
  obtain⟨q,a,D,E,G,rfl,rfl,rfl,d⟩:=hrel;clear ST;rcases d.fr with⟨rfl,rfl⟩|⟨hlt,rfl,hlq⟩
  ·go_wp2_with fail;go_ret;refine⟨D,E,G,rfl,d.own,⟨q,s,f,nl,?_⟩,d.but⟩;have z:=d.lf;have u:=Ig left;rw[t.out] at u;rw[u] at z;exact z
  ·have a3:=Zh hlq;have R:q<left.length:=(IA t.out);obtain⟨bb,_,g0,gf⟩:=d.lf.taken hlt;have c1:=d.lf.c1;have T:Hid (Lf (wr.setCell (cA g q) (.bool true)) B p g h m A n c old (TF left (q+1)) q s f nl):=Zh (by
    have:=d.lf.take hlt;rw[Hg R] at this;exact this)
   have K:Hid (iA (W3 p g m) w (wr.setCell (cA g q) (.bool true))):=Zh (iA.setCell (S:=W3 p g m) (p:=(cA g q)) d.but (fun _=> .inr (.inl rfl)) _);have L:Hid (kI.Own (wr.setCell (cA g q) (.bool true)) w.heap.size (.slice D E G) (yF left q)):=Zh (d.own.but (jJ wr g q (.bool true)) (fun i U e=>d.lf.nL d.own i U (.inr (.inl e))));have IY:=Zh (Rl hlq);have a4:=aR left q;have M:=Zh K.size;clear hlq d;go_upto_region 6 with fail;generalize wr.setCell (cA g q) (.bool true)=W at T K L M|-;have LD:Hid (kI.AA (W.alloc (.cells #[aA (q:Int)] 3)) (W.heap.size+1) (some ⟨W.heap.size,0,none⟩) [(q:Int)]):=Zh (Kind.AA.lit (heap_alloc_new W _) rfl);go_upto_region 4 with(at_builtin;refine kI.QF rfl _ _ rfl (v:=.slice D E G) (l:=yF left q) (m:=[(q:Int)]) (B:=w.heap.size) rfl (L.alloc _) rfl rfl KF LD jB (by have:=M.out;simp;omega) ?_;intro v' V o r X;have Y:Hid (Below w.heap.size W V):=Zh ((Ze.alloc M _).grown r (by have:=M.out;simp;omega) (fun i U=>(L.lt U).1));obtain⟨Z,n7,c7,rfl,_,_,_,_,_⟩:=o.slice;have O7:=Zh o;clear o r X);have X7:=Zh (T.below Y I.1 I.2.1 I.2.2.1 I.2.2.2.1 I.2.2.2.2);have J:=Zh (pk K Y);have H:=Zh (gI X7);clear T K L LD Y;go_wp2_with fail;refine H.mono ?_;rintro e w8 ⟨F8,a8,rfl,b,a1,x8,b8⟩;have a0:q+1<=F8:=by
    rcases b with⟨e,_⟩|⟨_,_,C⟩
    ·omega
    ·by_cases e:F8=q
     ·subst e;rw[Ro dA dA] at C;cases C
     ·omega
   have NR:Hid (xW w B p g h m A n c old left s f nl F8 a8 Z n7 c7 w8):=Zh (by
    obtain⟨z,u,C,Q⟩:=U8 (w:=w) (v:=.slice Z n7 c7) (q:=q+1) hlt t J (by rw[IY.out];exact O7) X7 b a0 x8 b8;exact⟨z,u,C,Q⟩)
   clear b x8 b8 H X7 O7 J;go_wp2_with fail
   go_roundg (n-F8)
   case measure=>omega
   case rel=>exact⟨F8,a8,Z,n7,c7,rfl,rfl,rfl,NR⟩
end P16
namespace P16
open Go.RowKit Kd P4 P5 P11 P12 P13 P14
structure R3(w:World)(s:Ms)(n:Nat)(A1:vA)(n1 c1:Nat)(A2:vA)(n2 c2:Nat)(A3:vA)(n3 c3:Nat):Prop where
 l1:s.take.length=n1
 l2:s.kept.length=n2
 l3:(yF s.left n).length=n3
 h1:kI.AA w w.heap.size A1 s.take
 h2:kI.AA w w.heap.size A2 s.kept
 h3:kI.AA w w.heap.size A3 (yF s.left n)
 k1:n1<=c1
 k2:n2<=c2
 k3:n3<=c3
 z1:A1=none->c1=0
 z2:A2=none->c2=0
 z3:A3=none->c3=0
end P16
namespace P16
open Go.RowKit Kd P4 P5 P11 P12 P13 P14 Mv
structure gO(w w2:World)(B p g h m t0:Nat)(A:vA)(n c:Nat)(old:List Ol)(ws:List PW)(n' j:Nat)(A3:vA)(n3 c3:Nat)(wr:World):Prop where
 lf:vO wr B p g h m A n c old (foldM old (ws.take j)).left
 tk:kI.Own wr w2.heap.size (.slice (some (cA t0 0)) n' n') ((foldM old (ws.take j)).take++List.replicate (n'-j) 0)
 kp:kI.Own wr w2.heap.size (.slice A3 n3 c3) (foldM old (ws.take j)).kept
 ap:(Value.slice A3 n3 c3).ownBlock≠some t0
 res:wr.heap[w.heap.size]? = some (.cells #[tA,tA,tA] 263 (0,0))
 hb:fA w wr
theorem vO.below{w w':World}{C B p g h m:Nat}{A:vA}{n c:Nat}{old:List Ol}{left:List Bool}(x:vO w B p g h m A n c old left)(hb:Below C w w')(h1:B<=C)(h2:p<C)(h3:g<C)(h4:h<C)(h5:m<C):vO w' B p g h m A n c old left:=by
 obtain⟨F,s,f,a,x⟩:=x;exact⟨F,s,f,a,x.below hb h1 h2 h3 h4 h5⟩
theorem jv{l:List Int}{j r:Nat}(h:l.length=j)(v:Int):(l++List.replicate (r+1) 0).set j v=l++[v]++List.replicate r 0:=by
 subst h;rw[List.set_append_right _ _ Zl,Nat.sub_self,List.replicate_succ,List.set_cons_zero,List.append_assoc];rfl
theorem oV{w:World}{D:Nat}{A:vA}{n c:Nat}{l:List Int}(h:kI.Own w D (.slice A n c) l):l.length=n/\n<=c/\(A=none->c=0)/\kI.AA w w.heap.size A l:=by
 obtain⟨g,i,j,a,b,d,k,e,f⟩:=h.slice;injection a with h1 h2 h3;subst h1;subst h2;subst h3;exact⟨b,d,e,f⟩
theorem tU(w:World)(b:Nat)(u0 u1 u2:Value):iA (fun i=>i=b) w (((w.setCell (cA b 0) u0).setCell (cA b 1) u1).setCell (cA b 2) u2):=
 iA.setCell (S:=fun i=>i=b) (p:=(cA b 2)) (iA.setCell (S:=fun i=>i=b) (p:=(cA b 1)) (iA.setCell (S:=fun i=>i=b) (p:=(cA b 0)) (iA.refl _ _) (fun _=>rfl) _) (fun _=>rfl) _) (fun _=>rfl) _
structure Wn(w:World)(A:vA)(n c:Nat)(ts:List WV):Prop where
 len:ts.length=n
 cap:n<=c
 nil:A=none->c=0
 holds:kW.AA w w.heap.size A ts
 ok:∀t∈ts,oD kW w w.heap.size t
theorem Uw{w:World}{A:vA}{n c:Nat}{ts:List WV}(h:Wm kW w A n c ts):Wn w A n c ts:=⟨h.len,h.cap,h.nil,h.holds,h.ok⟩
def Xd(w:World)(s:Ms)(n:Nat)(e:Ending)(w':World):Prop:=∃(A1:vA) (n1 c1:Nat) (A2:vA) (n2 c2:Nat) (A3:vA) (n3 c3:Nat),e= .returned (.agg #[.slice A1 n1 c1,.slice A2 n2 c2,.slice A3 n3 c3])/\R3 w' s n A1 n1 c1 A2 n2 c2 A3 n3 c3/\fA w w'/\kI.Own w' w.heap.size (.slice A1 n1 c1) s.take
theorem tt(old:List Ol)(A:vA)(n c:Nat)(ts:List WV)(A':vA)(n' c':Nat)(w:World)(hh:kO.AA w w.heap.size A old)(hsz:∀o∈old,o.tag.size<=maxLen/\o.key.size<=maxLen)(hn:old.length=n)(hs:n<=1000)(hm:Wn w A' n' c' ts)(hwf:∀t∈yA ts,tC t)(hwt:cD (yA ts)<=1000):
 jA 172 #[.slice A n c,.slice A' n' c'] w (Xd w (foldM old (yA ts)) old.length):=by
 have B0:Hid (fA w (w.alloc (.cells #[.slice none 0 0,.slice none 0 0,.slice none 0 0] 263))):=Zh (Zb _ _);have Z:Hid ((w.alloc (.cells #[.slice none 0 0,.slice none 0 0,.slice none 0 0] 263)).heap[w.heap.size]? = some (.cells #[.slice none 0 0,.slice none 0 0,.slice none 0 0] 263 (0,0))):=Zh (heap_alloc_new w _);have ba:=Zh hsz;have HN:=Zh hn;have HH:=Zh hh;have HM:=Zh hm;have bb:=Zh hwf;have R:=hm.len;have HL:=Zh R;have EL:Hid ((yA ts).length=n'):=Zh (by rw[nC];simpa using R);have bq:n'<=1000:=(by have:=uR (yA ts);have:=EL.out;omega);have bc:=EY n' (by omega);clear hh hsz hn hm hwf R hwt;go_enter func172,ntmps172;go_upto_region 1 with fail;generalize w.alloc (.cells #[.slice none 0 0,.slice none 0 0,.slice none 0 0] 263)=w1 at B0 Z|-;have CN:=Zh (Zf old A n c w1 (HH.out.on B0.out) ba.out HN.out hs);go_wp2_with fail;refine CN.out.mono ?_;rintro e z ⟨p,g,h,m,s,f,nl,rfl,x2,b2⟩;have X2:=Zh x2;have B2:=Zh (B0.out.trans (b2.mono B0.out.size));have R2:=Zh ((b2.block _ (JA Z.out)).trans Z.out);have J:Hid (w.heap.size<w1.heap.size/\w1.heap.size<=z.heap.size/\w1.heap.size<=p/\w1.heap.size<=g/\w1.heap.size<=m):=Zh ⟨JA Z.out,b2.size,x2.Bp,x2.Bg,x2.Bm⟩;have LT:Hid (p<z.heap.size/\g<z.heap.size/\h<z.heap.size/\m<z.heap.size):=Zh ⟨x2.GJ,(x2.own.lt rfl).2,(x2.nx.lt rfl).2,x2.map.lt⟩;clear x2 b2 CN B0 Z;go_upto_region 3 with fail;have XM:=Zh (X2.out.alloc (.cells (madeCells #[.int .i64 0] n') 3));have OM:Hid (kI.Own (z.alloc (.cells (madeCells #[.int .i64 0] n') 3)) z.heap.size (.slice (some ⟨z.heap.size,0,none⟩) n' n') (List.replicate n' 0)):=Zh (Kind.OH (by simp) Zl (heap_alloc_new z _) Zl (by unfold maxLen;omega) (by rw[size_madeCells];exact(Nat.mul_one n').symm) (by rw[toList_madeCells_one,List.take_of_length_le (by simp[kI]),YT]));have ST:Hid (gO w z w1.heap.size p g h m z.heap.size A n c old (yA ts) n' 0 none 0 0 (z.alloc (.cells (madeCells #[.int .i64 0] n') 3))):=Zh {
  lf:=⟨0,s,f,nl,by
   have e:(foldM old ((yA ts).take 0)).left=List.replicate n true:=(by rw[List.take_zero];show List.replicate old.length true=_;rw[HN.out]);rw[e];exact XM.out⟩
  tk:=by
   have e:(foldM old ((yA ts).take 0)).take=[]:=(by rw[List.take_zero];rfl);rw[e,Nat.sub_zero,List.nil_append];exact OM.out
  kp:=by
   have e:(foldM old ((yA ts).take 0)).kept=[]:=(by rw[List.take_zero];rfl);rw[e];exact Kind.Own.nil kI _ _
  ap:=fun e=>by cases e
  res:=JB R2.out
  hb:=B2.out.alloc B2.out.size _}
 clear XM OM X2 B2 R2 bc;generalize br:z.heap.size=u at ST|-;go_wp2_with fail;go_loopw [7,17] (fun s7 a9 wr=>∃(j:Nat) (A3:vA) (n3 c3:Nat),j<=n'/\a9= .int .i64 j/\s7= .slice A3 n3 c3/\Hid (gO w z w1.heap.size p g h m u A n c old (yA ts) n' j A3 n3 c3 wr)) (fun _ a9 _=>n'-(intOf a9).toNat)
 case atStart=>exact⟨0,none,0,0,Nat.zero_le _,rfl,rfl,ST⟩
 case round=>
  obtain⟨j,A3,n3,c3,hj,rfl,rfl,K⟩:=hrel;clear ST;have d:=yQ old ((yA ts).take j);have y:=Gg old ((yA ts).take j);rw[List.length_take,EL.out,Nat.min_eq_left hj] at d;by_cases bs:j<n'
  ·have a0:j<ts.length:=(by have:=HL.out;omega);have S:j<(yA ts).length:=(by have:=EL.out;omega);have SN:=Zh (FT (old:=old) S);rw[LK a0 S] at SN;have WT:Hid (tC (er ts[j])):=Zh (by rw[<-LK a0 S];exact bb.out _ (List.getElem_mem S));obtain⟨b',o',rfl,N,ao,aq,ar,au,aw,ax⟩:=pU HM.out.holds a0;have y0:=(K.out.hb.cell N).trans ao;have y1:=(K.out.hb.cell N).trans aq;have y2:=(K.out.hb.cell N).trans ar;have y3:=(K.out.hb.cell N).trans au;have y4:=(K.out.hb.cell N).trans aw;have y5:=(K.out.hb.cell N).trans ax;have aa:Hid ((er ts[j]).kind=ts[j].kind):=Zh (by rw[aF];rfl);clear ao aq ar au aw ax S;generalize ts[j]=t at y0 y1 y2 y3 y4 y5 SN WT aa;clear a0;generalize ay:foldM old ((yA ts).take j)=st at SN d y;have T:=K.out.tk;have KP:=K.out.kp;have LF:=K.out.lf;rw[ay] at T KP LF;obtain⟨x,b,E⟩:=st;simp only at T KP LF d y;have ab:Hid (b.length=j):=Zh d.1;have bd:Hid (E.length<=1000000):=Zh (by
    have h1:j*old.length<=1000*1000:=Nat.mul_le_mul (by omega) (by have:=HN.out;omega);omega)
   have bt:Hid (x.length=n):=Zh (by have:=HN.out;omega);clear ay d y;go_upto_region 7 with fail;have BW:Hid (fA w (wr.alloc (.cells #[.int .i64 t.kind,.string t.tag,.string t.key,.string t.txt,.slice t.sa.A t.sa.n t.sa.c,.slice t.sk.A t.sk.n t.sk.c] 268))):=Zh (K.out.hb.alloc K.out.hb.size _);have U:Hid ((wr.alloc (.cells #[.int .i64 t.kind,.string t.tag,.string t.key,.string t.txt,.slice t.sa.A t.sa.n t.sa.c,.slice t.sk.A t.sk.n t.sk.c] 268)).heap[wr.heap.size]? = some (.cells #[.int .i64 t.kind,.string t.tag,.string t.key,.string t.txt,.slice t.sa.A t.sa.n t.sa.c,.slice t.sk.A t.sk.n t.sk.c] 268 (0,0))):=Zh (heap_alloc_new wr _);obtain⟨F,s',f',be,lf⟩:=LF;have XW:=Zh (lf.alloc (.cells #[.int .i64 t.kind,.string t.tag,.string t.key,.string t.txt,.slice t.sa.A t.sa.n t.sa.c,.slice t.sk.A t.sk.n t.sk.c] 268));have V:=Zh (T.alloc (.cells #[.int .i64 t.kind,.string t.tag,.string t.key,.string t.txt,.slice t.sa.A t.sa.n t.sa.c,.slice t.sk.A t.sk.n t.sk.c] 268));have a1:=Zh (KP.alloc (.cells #[.int .i64 t.kind,.string t.tag,.string t.key,.string t.txt,.slice t.sa.A t.sa.n t.sa.c,.slice t.sk.A t.sk.n t.sk.c] 268));have RW:Hid ((wr.alloc (.cells #[.int .i64 t.kind,.string t.tag,.string t.key,.string t.txt,.slice t.sa.A t.sa.n t.sa.c,.slice t.sk.A t.sk.n t.sk.c] 268)).heap[w.heap.size]? = some (.cells #[.slice none 0 0,.slice none 0 0,.slice none 0 0] 263 (0,0))):=Zh (JB K.out.res);have AP:=Zh K.out.ap;have B9:Hid (u<wr.heap.size/\p<wr.heap.size/\g<wr.heap.size/\m<wr.heap.size/\z.heap.size<=u):=Zh ⟨(T.lt (g:=u) rfl).2,lf.GJ,(lf.own.lt (g:=g) rfl).2,lf.map.lt,(T.lt (g:=u) rfl).1⟩;clear T KP lf K y0 y1 y2 y3 y4 y5;generalize wr.heap.size=C at U B9|-;generalize (wr.alloc (.cells #[.int .i64 t.kind,.string t.tag,.string t.key,.string t.txt,.slice t.sa.A t.sa.n t.sa.c,.slice t.sk.A t.sk.n t.sk.c] 268))=W at BW U XW V a1 RW|-;have z0:W.cell? (cA C 0)=some (.int .i64 t.kind):=cell_of_row W C 0 _ _ (0,0) U.out;have z1:W.cell? (cA C 1)=some (.string t.tag):=cell_of_row W C 1 _ _ (0,0) U.out;have z2:W.cell? (cA C 2)=some (.string t.key):=cell_of_row W C 2 _ _ (0,0) U.out;have z3:W.cell? (cA C 3)=some (.string t.txt):=cell_of_row W C 3 _ _ (0,0) U.out;have z4:W.cell? (cA C 4)=some (.slice t.sa.A t.sa.n t.sa.c):=cell_of_row W C 4 _ _ (0,0) U.out;have z5:W.cell? (cA C 5)=some (.slice t.sk.A t.sk.n t.sk.c):=cell_of_row W C 5 _ _ (0,0) U.out;have CT:=Zh (IU XW.out t WT.out);obtain⟨L,ac⟩:=DA ((tB (er t) old x old.length).1);have ad:Hid ((t.kind=4->foldM old ((yA ts).take (j+1))=⟨List.replicate old.length false,b++[L],E++yF (QG x L) old.length⟩)/\(¬t.kind=4->foldM old ((yA ts).take (j+1))=⟨QG x L,b++[L],E⟩)):=Zh (by
    rw[SN.out,UF,aa.out];simp only[ac];exact⟨fun h=>by rw[if_pos h],fun h=>by rw[if_neg h]⟩)
   rw[ac] at CT;clear ac SN aa;obtain⟨r,hr⟩:∃r,n'-j=r+1:=⟨n'-j-1,by omega⟩;rw[hr] at V;have az:Hid (n'-(j+1)=r):=Zh (by omega);clear hr;go_wp2_with fail;refine CT.out.mono ?_;rintro e w7 ⟨rfl,b0,b7⟩;have b1:=Zh b0;have ae:=Zh (V.out.but b7 (XW.out.nL V.out));have b3:=Zh (a1.out.but b7 (XW.out.nL a1.out));have af:=Zh ((b7.block C (JA U.out) (fun e=>by have:=B9.out;rcases e with e|e|e<;>omega)).trans U.out);have R7:=Zh ((b7.block _ (JA RW.out) (fun e=>by have:=J.out;rcases e with e|e|e<;>omega)).trans RW.out);have b4:Hid (fA w w7):=Zh (BW.out.trans (b7.eD (fun i _ e=>by have:=J.out;rcases e with e|e|e<;>omega) BW.out.size));obtain⟨f7,c7,a8⟩:=xT ae.out (k:=j) (by have:=ab.out;simp;omega) L;obtain⟨u7,bf⟩:=Option.isSome_iff_exists.1 c7;have hS:Below z.heap.size w7 (w7.setCell (cA u j) (.int .i64 L)):=(jJ w7 u j _).eD (fun i _ e=>by have:=B9.out;omega) (by have:=(ae.out.lt (g:=u) rfl);omega);have a2:=Zh (b1.out.below hS J.out.2.1 LT.out.1 LT.out.2.1 LT.out.2.2.1 LT.out.2.2.2);have a3:Hid (kI.Own (w7.setCell (cA u j) (.int .i64 L)) z.heap.size (.slice (some (cA u 0)) n' n') ((b++[L])++List.replicate r 0)):=Zh (by rw[<-jv ab.out L];exact a8);have a4:=Zh (b3.out.but (jJ w7 u j (.int .i64 L)) (fun i O e=>AP.out (by rw[O,e])));have b5:=Zh (((jJ w7 u j (.int .i64 L)).block C (JA af.out) (fun e=>by have:=B9.out;omega)).trans af.out);have R8:=Zh (((jJ w7 u j (.int .i64 L)).block w.heap.size (JA R7.out) (fun e=>by have:=B9.out;have:=J.out;omega)).trans R7.out);have a5:Hid (fA w (w7.setCell (cA u j) (.int .i64 L))):=Zh (b4.out.trans (hS.mono (by have:=J.out;omega)));clear b7 b0 c7 a8 hS CT z0 z1 z2 z3 z4 z5 V a1 XW RW BW U;go_upto_region 8 with fail;clear f7 bf ae b3 b1 af R7 b4;generalize w7.setCell (cA u j) (.int .i64 L)=w8 at a2 a3 a4 b5 R8 a5|-;have z0:w8.cell? (cA C 0)=some (.int .i64 t.kind):=cell_of_row w8 C 0 _ _ (0,0) b5.out;by_cases h4:t.kind=4
   ·rw[h4] at z0;have ag:=ad.out.1 h4;rw[HN.out] at ag;have M:=Zh ag;clear ag;obtain⟨F8,s8,f8,bu,ah⟩:=a2.out;have L8:=Zh ah;have CA:=Zh (JX ah);clear ah a2 ad;go_wp2_with fail;refine CA.out.mono ?_;rintro e G ⟨A4,n4,c4,rfl,H,a6,X⟩;have O4:=Zh H;have bg:=Zh a6;have I:=Zh (a3.out.but X (L8.out.nL a3.out));have P:=Zh (a4.out.but X (L8.out.nL a4.out));have R9:=Zh ((X.block _ (JA R8.out) (fun e=>by have:=J.out;rcases e with e|e|e<;>omega)).trans R8.out);have a7:Hid (fA w G):=Zh (a5.out.trans (X.eD (fun i _ e=>by have:=J.out;rcases e with e|e|e<;>omega) a5.out.size));have ai:Hid (u<G.heap.size/\z.heap.size<=G.heap.size):=Zh ⟨(I.out.lt (g:=u) rfl).2,by have:=(I.out.lt (g:=u) rfl);omega⟩;have OS:=O4.out.slice;obtain⟨A',m',d',hv,e1,e2,e3,e4,e5⟩:=OS;injection hv with q1 q2 q3;subst q1;subst q2;subst q3;have E1:=Zh e1;have E4:=Zh e4;have E5:=Zh e5;have bh:=aR (QG x L) n;rw[e1] at bh;clear X a6 H e1 e2 e3 e4 e5 z0 CA;go_upto_region 10 with(at_builtin;refine kI.QF rfl _ _ rfl (v:=.slice A3 n3 c3) (l:=E) (m:=yF (QG x L) n) (B:=z.heap.size) (A:=A4) (n:=n4) (c:=c4) rfl P.out rfl E1.out E4.out E5.out (by have:=bd.out;omega) ai.out.2 ?_;intro v' aj Y D b6;obtain⟨A5,n5,c5,rfl,_,_,_,_,_⟩:=Y.slice;have bi:=Zh Y;have b8:Hid (Below z.heap.size G aj):=Zh (Ze.grown D ai.out.2 (fun i O=>(P.out.lt O).1));have bj:=Zh (I.out.grown D (fun i O e=>AP.out (by rw[e,<-O];rfl)));have bk:=Zh ((D.block _ (JA R9.out) (fun e=>by have:=(P.out.lt e.symm).1;have:=J.out;omega)).trans R9.out);have bl:Hid ((Value.slice A5 n5 c5).ownBlock≠some u):=Zh (fun e=>b6.elim (fun q=>AP.out (q.symm.trans e)) (fun q=>by have:=ai.out;rw[q] at e;have:=Option.some.inj e;omega));clear Y D b6);have bm:=Zh (bg.out.below b8.out J.out.2.1 LT.out.1 LT.out.2.1 LT.out.2.2.1 LT.out.2.2.2);have bn:Hid (fA w aj):=Zh (a7.out.trans (b8.out.mono (by have:=J.out;omega)));have ak:Hid (gO w z w1.heap.size p g h m u A n c old (yA ts) n' (j+1) A5 n5 c5 aj):=Zh {
     lf:=by rw[M.out];exact bm.out
     tk:=by rw[M.out,az.out];exact bj.out
     kp:=by rw[M.out];exact bi.out
     ap:=bl.out
     res:=bk.out
     hb:=bn.out}
    go_wp2_with fail;go_roundw
    case rel=>exact⟨j+1,A5,n5,c5,by omega,by go_num,rfl,ak⟩
    case measure=>simp[intOf];omega
   ·have M:=Zh (ad.out.2 h4);have q4:=int_ne h4;have ak:Hid (gO w z w1.heap.size p g h m u A n c old (yA ts) n' (j+1) A3 n3 c3 w8):=Zh {
     lf:=by rw[M.out];exact a2.out
     tk:=by rw[M.out,az.out];exact a3.out
     kp:=by rw[M.out];exact a4.out
     ap:=AP.out
     res:=R8.out
     hb:=a5.out}
    go_wp2_with fail;go_roundw
    case rel=>exact⟨j+1,A3,n3,c3,by omega,by go_num,rfl,ak⟩
    case measure=>simp[intOf];omega
  ·obtain rfl:j=n':=by omega
   have e:(yA ts).take j=yA ts:=List.take_of_length_le (by have:=EL.out;omega);rw[e] at d y;have Q:=K.out;have T:=Q.tk;have KP:=Q.kp;obtain⟨F,s',f',be,lf⟩:=Q.lf;rw[e] at T KP lf;rw[Nat.sub_self,List.replicate_zero,List.append_nil] at T;have al:=Zh T;have am:=Zh KP;have L0:=Zh lf;have Z:=Zh Q.res;have an:=Zh Q.hb;have CA:=Zh (JX lf);have bo:Hid (w.heap.size<wr.heap.size):=Zh (JA Z.out);have ab:Hid ((foldM old (yA ts)).take.length=j):=Zh d.1;clear K Q T KP lf e y d;go_wp2_with fail;refine CA.out.mono ?_;rintro e G ⟨A4,n4,c4,rfl,H,a6,C⟩;have O4:=Zh H;have I:=Zh (al.out.but C (L0.out.nL al.out));have P:=Zh (am.out.but C (L0.out.nL am.out));have R9:=Zh ((C.block _ (JA Z.out) (fun e=>by have:=J.out;rcases e with e|e|e<;>omega)).trans Z.out);have a7:Hid (fA w G):=Zh (an.out.trans (C.eD (fun i _ e=>by have:=J.out;rcases e with e|e|e<;>omega) an.out.size));have bp:w.heap.size<G.heap.size:=JA R9.out;have r0:G.cell? ⟨w.heap.size,0,none⟩=some (.slice none 0 0):=cell_of_row G _ 0 _ _ (0,0) R9.out;have r1:G.cell? ⟨w.heap.size,1,none⟩=some (.slice none 0 0):=cell_of_row G _ 1 _ _ (0,0) R9.out;have r2:G.cell? ⟨w.heap.size,2,none⟩=some (.slice none 0 0):=cell_of_row G _ 2 _ _ (0,0) R9.out;have rf:∀i,G.frozen? ⟨w.heap.size,i,none⟩=false:=fun i=>by have hb:=R9.out;simp[World.frozen?,hb]
   clear H a6 C CA al am L0 Z an;go_wp2_with fail;refine bodyPost_ret (v:=.agg #[.slice (some (cA u 0)) j j,.slice A3 n3 c3,.slice A4 n4 c4]) (by simp[results,results172,go_sem,r0,r1,r2,bp]) rfl ⟨_,_,_,_,_,_,_,_,_,rfl,?_,?_,?_⟩
   ·have hb:=tU G w.heap.size (.slice (some (cA u 0)) j j) (.slice A3 n3 c3) (.slice A4 n4 c4);have h1:=oV (I.out.but hb (fun i O e=>by have:=(I.out.lt O).1;have:=J.out;omega));have h2:=oV (P.out.but hb (fun i O e=>by have:=(P.out.lt O).1;have:=J.out;omega));have h3:=oV (O4.out.but hb (fun i O e=>by have:=(O4.out.lt O).1;have:=bo.out;omega));rw[<-HN.out] at h3;exact⟨h1.1,h2.1,h3.1,h1.2.2.2,h2.2.2.2,h3.2.2.2,h1.2.1,h2.2.1,h3.2.1,h1.2.2.1,h2.2.2.1,h3.2.2.1⟩
   ·exact a7.out.trans ((tU G w.heap.size _ _ _).eD (fun i _ e=>by omega) a7.out.size)
   ·have hb:=tU G w.heap.size (.slice (some (cA u 0)) j j) (.slice A3 n3 c3) (.slice A4 n4 c4);exact(I.out.but hb (fun i O e=>by have:=(I.out.lt O).1;have:=J.out;omega)).dE (by have:=J.out;omega)
end P16
namespace P20
open P5 P11 P12 P13 P14 P16 P19
def sI(kids:List Int)(id:Int):Int:=(kids.drop (kids.idxOf id+1)).headD 0
def pD(s:Sg)(id:Int)(b:uA)(outer:Bool):Nat×Sg:=
 if(fB b).2≠0 then((fB b).2,s)
 else if WD (fB b).1≠0 then(WD (fB b).1,s)
 else match find s.1.l id with
 |none=>(2,s)
 |some nd=>
  if qC nd.tag=true then(3,s)
  else if outer=true/\(nd.par=0\/1<(MB (fB b).1).length) then(4,s)
  else if s.1.R<s.1.l.length+xB (MB (fB b).1) then(6,s)
  else if outer=false then(0,uB (dL (MB (fB b).1)+1) s id nd.kids 0 (MB (fB b).1))
  else(0,uB (dL (MB (fB b).1)+1) s nd.par [id] (sI (xA s.1.l nd.par) id) (MB (fB b).1))
theorem Q5:∀(f:Nat) (b:uA) (acc:List In),(∀i∈acc,UB i=true)->∀i∈(qI f b acc).1,UB i=true
 |0,_,_,h=>h
 |f+1,b,acc,h=>by
  rw[qI];split
  ·exact h
  ·split
   ·intro i hi;cases hi
   ·rename_i i r e;split
    ·intro i hi;cases hi
    ·refine Q5 f r _ (fun j hj=>?_);rcases List.mem_append.1 hj with hj|hj
     ·exact h j hj
     ·rw[List.mem_singleton] at hj;subst hj;unfold eK at e;split at e
      ·cases e
      ·split at e
       ·cases e
       ·split at e
        ·rename_i hm;injection e with e;injection e with e1 _;rw[<-e1];exact hm
        ·cases e
theorem Km(b:uA):∀i∈(fB b).1,UB i=true:=Q5 _ _ _ (fun i a=>by cases a)
theorem jY:∀(f:Nat) (b:uA) (acc:List In),acc.length<=120->(qI f b acc).1.length<=120
 |0,_,_,h=>h
 |f+1,b,acc,h=>by
  rw[qI];split
  ·exact h
  ·split
   ·simp
   ·split
    ·simp
    ·rename_i hne;exact jY f _ _ jB
theorem Ug(b:uA):(fB b).1.length<=120:=jY _ _ _ FA
theorem lP{l:List In}(h:WD l=0):pC (MB l)<=120/\cD (MB l)<=120:=by
 obtain⟨a,b⟩:=GQ h;have c:=zq b;rw[a] at c;have d:=(qT h).1;have e:=DV (MB l);omega
theorem kY{d:D}(hw:WF d){id:Int}{nd:Nd}(hf:find d.l id=some nd)(h0:nd.par≠0):∃pre post,xA d.l nd.par=pre++([id]++post)/\sI (xA d.l nd.par) id=post.headD 0:=by
 have b:EA d.l id=nd.par:=sV hf;have f:id∈xA d.l nd.par:=(by have:=hw.tr.par id (by rw[b];exact h0);rw[b] at this;exact this);have a:=List.idxOf_lt_length_of_mem f;refine⟨(xA d.l nd.par).take ((xA d.l nd.par).idxOf id),(xA d.l nd.par).drop ((xA d.l nd.par).idxOf id+1),?_,rfl⟩;have c:=List.take_append_drop ((xA d.l nd.par).idxOf id) (xA d.l nd.par);have e:=List.drop_eq_getElem_cons a;rw[List.getElem_idxOf a] at e;rw[e] at c;exact c.symm
theorem Bc{s:Sg}(hw:WF s.1)(id:Int)(b:uA)(outer:Bool):WF (pD s id b outer).2.1/\(pD s id b outer).2.1.n<=s.1.n+120/\(pD s id b outer).2.2.length<=s.2.length+250000:=by
 unfold pD;split
 ·exact⟨hw,by show s.1.n<=_;omega,by show s.2.length<=_;omega⟩
 split
 ·exact⟨hw,by show s.1.n<=_;omega,by show s.2.length<=_;omega⟩
 rename_i hc;have r:=(lP (l:=(fB b).1) dA).1;cases hf:find s.1.l id with
 |none=>exact⟨hw,by show s.1.n<=_;omega,by show s.2.length<=_;omega⟩
 |some nd=>
  simp only;have c:id≠0:=hw.tr.jG (vK hf);split
  ·exact⟨hw,by show s.1.n<=_;omega,by show s.2.length<=_;omega⟩
  split
  ·exact⟨hw,by show s.1.n<=_;omega,by show s.2.length<=_;omega⟩
  split
  ·exact⟨hw,by show s.1.n<=_;omega,by show s.2.length<=_;omega⟩
  split
  ·obtain⟨g,j⟩:=fJ hw id;have d:xA s.1.l id=nd.kids:=EI hf;rw[d] at g j;have k:=Y2 (dL (MB (fB b).1)+1) 0 (MB (fB b).1) hw c g j;have f:=YY (dL (MB (fB b).1)) 0 (MB (fB b).1) hw c g j (by rw[<-d];exact LJ hw id);refine⟨k.1,?_,?_⟩
   ·show(uB _ s id nd.kids 0 _).1.n<=_;have:=f.1;omega
   ·show(uB _ s id nd.kids 0 _).2.length<=_;have:=f.2;omega
  ·rename_i h3 h4 h5 h6;have m:outer=true:=(by simpa using h6);have a:nd.par≠0:=fun e=>h4 ⟨m,.inl e⟩
   obtain⟨q,o,t,u⟩:=kY hw hf a;have d:P19.Kids s nd.par [id]:=fun i p=>by
    rw[List.mem_singleton] at p;subst p;exact⟨vK hf,sV hf⟩
   have k:=Y2 (dL (MB (fB b).1)+1) (sI (xA s.1.l nd.par) id) (MB (fB b).1) hw a d FA;have f:=YY (dL (MB (fB b).1)) (sI (xA s.1.l nd.par) id) (MB (fB b).1) hw a d FA FA;refine⟨k.1,?_,?_⟩
   ·show(uB _ s nd.par [id] _ _).1.n<=_;have:=f.1;omega
   ·show(uB _ s nd.par [id] _ _).2.length<=_;have:=f.2;omega
end P20
namespace P14
open Go.RowKit Kd P4 P5 P11 P12 P13
structure Rs(w:World)(C:Nat)(A:vA)(n c:Nat)(l:List In):Prop where
 len:l.length=n
 cap:n<=c
 cm:c<=maxLen
 n1:n<=1000
 holds:kX.AA w C A l
section
variable{w w':World}{C:Nat}{A:vA}{n c:Nat}{l:List In}
theorem Rs.below(h:Rs w C A n c l)(hb:fA w w')(hC:C<=w.heap.size):Rs w' C A n c l:=⟨h.len,h.cap,h.cm,h.n1,h.holds.below hb hC⟩
theorem Rs.back(h:Rs w' C A n c l)(hb:fA w w')(hC:C<=w.heap.size):Rs w C A n c l:=⟨h.len,h.cap,h.cm,h.n1,h.holds.VB fun b _ a=>(hb.block b dA).symm⟩
theorem Rs.cons{x:In}{r:List In}(h:Rs w C A n c (x:: r)):∃b o,A=some (cA b o)/\b<C/\w.cell? (cA b o)=some (aA x.op)/\w.cell? ⟨b,o+1,none⟩=some (bA x.a)/\w.cell? ⟨b,o+2,none⟩=some (bA x.b)/\r.length+1=n/\0<n/\
 (c=1->Rs w C (some (cA b o)) 0 0 r)/\(¬c=1->Rs w C (some ⟨b,o+3,none⟩) (n-1) (c-1) r):=by
 have f:r.length+1=n:=(by have:=h.len;simpa using this);have d:=h.cap;have g:=h.cm;have i:=h.n1;obtain⟨b,o,rfl,j,a⟩:=h.holds.at (k:=0) FA;have l:kX.AA w C (some ⟨b,o+3,none⟩) r:=by
  have:=h.holds.drop 1;simpa[kX] using this
 refine⟨b,o,rfl,j,?_,?_,?_,f,by omega,fun e=>?_,fun e=>⟨by omega,by omega,by omega,by omega,l⟩⟩
 ·have:=a 0 _ rfl;simpa using this
 ·have:=a 1 _ rfl;simpa using this
 ·have:=a 2 _ rfl;simpa using this
 ·have:r=[]:=List.eq_nil_of_length_eq_zero dA;subst this;exact⟨rfl,Zl,by unfold maxLen;omega,by omega,Kind.AA.nil _ _ _⟩
end
def zW(w:World)(C:Nat)(ats:List P3.At)(rest:List In)(e:Ending)(w':World):Prop:=∃(A:vA) (n c:Nat) (A2:vA) (n2 c2:Nat),e= .returned (.tuple #[.slice A n c,.slice A2 n2 c2])/\kA.Own w' w.heap.size (.slice A n c) ats/\Rs w C A2 n2 c2 rest/\fA w w'
def Yd(w:World)(C:Nat)(ats:List P3.At)(rest:List In)(s0 s4:Value)(wr:World):Prop:=∃(dn td:List P3.At) (A:vA) (n c:Nat) (A':vA) (n' c':Nat),s0= .slice A n c/\s4= .slice A' n' c'/\Hid (dn++td=ats)/\Hid (Rs w C A n c (td.map vE++rest))/\Hid (kA.Own wr w.heap.size (.slice A' n' c') dn)/\Hid (dn.length+n<=1000)/\Hid (fA w wr)
theorem oX(ats:List P3.At)(rest:List In)(A:vA)(n c C:Nat)(w:World)(hr:sJ rest)(h:Rs w C A n c (ats.map vE++rest))(hC:C<=w.heap.size):jA 267 #[.slice A n c] w (zW w C ats rest):=by
 have ST:Hid (Yd w C ats rest (.slice A n c) (tA) w):=Zh ⟨[],ats,A,n,c,none,0,0,rfl,rfl,Zh rfl,Zh h,Zh (Kind.Own.nil kA w _),Zh (by have:=h.n1;simp;omega),Zh Ze⟩;have HR:=Zh hr;have Y:C<=w.heap.size:=hC;clear h hr;go_enter func267,ntmps267;go_wp2_with fail;go_loopw [0,4] (fun s0 s4 wr=>Yd w C ats rest s0 s4 wr) (fun s0 _ _=>match s0 with| .slice _ n _=>n|_=>0)
 case atStart=>exact ST
 case round=>
  obtain⟨H,L,A,n,c,A',n',c',rfl,rfl,HA,O,P,HN,z⟩:=hrel;clear ST;have a7:=O.n1;have a8:=O.cap;have a2:=O.cm;have I:w.heap.size<=wr.heap.size:=z.size;have a5:C<=wr.heap.size:=Nat.le_trans Y I;cases L with
  |nil=>
   have HE:Hid (H=ats):=Zh (by have:=HA.out;simpa using this);have t:=Zh O.out;clear O HA;cases rest with
   |nil=>
    obtain rfl:n=0:=by have:=t.len;simpa using this.symm
    go_wp2_with fail;go_ret2;exact⟨A',n',c',A,0,c,rfl,by rw[<-HE.out];exact P,t,z⟩
   |cons y r=>
    obtain⟨b,o,rfl,hb,F,_,_,hl,h0,_,_⟩:=(t.below z Y).cons;have ht:bD y.op=false:=HR y rfl;have M:Hid (jA 249 #[aA y.op] wr fun e w'=>e= .returned (.bool false)/\fA wr w'):=Zh (by
     have:=pV y.op wr;rw[show EP y.op=false by rw[<-ht];exact Bool.eq_iff_iff.2 (by simp[EP,bD])] at this;exact this)
    have HY:=Zh ht;clear ht hl;go_wp2_with fail;refine M.mono ?_;rintro e N ⟨rfl,D⟩;have f:=Zh (z.trans (D.mono I));have J:=Zh (P.below D Zl);clear D M z P;go_wp2_with fail;go_ret2;exact⟨A',n',c',_,n,c,rfl,by rw[<-HE.out];exact J,t,f⟩
  |cons a L=>
   obtain⟨u,x,st⟩:=a;have K:Hid ((H++[⟨u,x,st⟩])++L=ats):=Zh (by rw[<-HA.out];simp);have t:=Zh O.out;have a9:H.length+n<=1000:=HN;clear HA O HN;obtain⟨b,o,rfl,hb,Z,a0,a1,hl,h0,q,s⟩:=t.cons;have G:Hid (∀k,fA w k->k.cell? (cA b o)=some (aA (if st then 6 else 5))/\k.cell? ⟨b,o+1,none⟩=some (bA u)/\k.cell? ⟨b,o+2,none⟩=some (bA x)):=Zh (fun k Q=>⟨(Q.cell (by show b<_;omega)).trans Z,(Q.cell (by show b<_;omega)).trans a0,(Q.cell (by show b<_;omega)).trans a1⟩);have q:=Zh q;have s:=Zh s;clear Z a0 a1 hl t;have i0:(0:Int)<(n:Int):=dA;have i1:(1:Int)<=(n:Int):=dA;have i2:(n:Int)<=(c:Int):=dA;have a6:c<=9223372036854775807:=(by unfold maxLen at a2;omega);cases st
   ·have G:=G.out;have M:=Zh (pV 5 wr);obtain⟨F,R,S⟩:=G wr z;simp only[Bool.false_eq_true,if_false,if_true] at F;have p:Hid (∀k,fA w k->k.cell? (cA b o)=some (aA 5)/\k.cell? ⟨b,o+1,none⟩=some (bA u)/\k.cell? ⟨b,o+2,none⟩=some (bA x)):=Zh (fun k Q=>by have:=G k Q;simpa using this);clear G;go_wp2_with fail;refine M.mono ?_;rintro e N ⟨rfl,D⟩;have f:=Zh (z.trans (D.mono I));have J:=Zh (P.below D Zl);have a3:w.heap.size<=N.heap.size:=f.size;clear D M z P F R S;obtain⟨F,R,S⟩:=p N f;have T:=p N f;go_upto_region 3 with fail;go_region_held3 (fun w'=>w'.cell? (cA b o)=some (aA 5)/\w'.cell? ⟨b,o+1,none⟩=some (bA u)/\w'.cell? ⟨b,o+2,none⟩=some (bA x)) (first|go_keep|exact T) ((first
     |(refine kA.FL rfl (.tmp 15) (.tmp 30) rfl (v:=.slice A' n' c') (l:=H) (m:=[⟨u,x,false⟩]) (B:=w.heap.size) rfl (by repeat (first|exact J|refine Kind.Own.alloc ?_ _|refine Kind.Own.drewN ?_ _|refine Kind.Own.drew ?_)) rfl rfl KF (Kind.AA.lit (by first|exact heap_alloc_new _ _|exact heap_drew (yD rfl)|exact yD rfl) rfl) dA (by have:=f.size;simp;omega) ?_;intro v' E d g U;obtain⟨A6,n6,c6,rfl,_,_,_,_,_⟩:=d.slice;have O6:=Zh d;have V:Hid (fA w E):=Zh (Below.grown (by first|exact(f.alloc f.size _).drew|exact f.alloc f.size _|exact(f.drew).alloc (by simpa using f.size) _) g (by have:=f.size;simp;omega) (fun i hi=>(J.lt hi).1));have T:=p E V;clear d g U)
     |fail))
    clear T p F R S f J;by_cases j:c=1
    ·have W:=Zh (q j);subst j;obtain rfl:n=1:=dA
     clear q s;go_wp2_with fail;go_roundw
     case rel=>exact⟨H++[⟨u,x,false⟩],L,_,0,0,A6,n6,c6,rfl,rfl,K,W,O6,Zh jB,V⟩
     case measure=>exact Nat.one_pos
    ·have X:=Zh (s j);have a4:¬c-1=0:=dA;clear q s;go_wp2_with fail;go_roundw
     case rel=>exact⟨H++[⟨u,x,false⟩],L,_,n-1,c-1,A6,n6,c6,rfl,rfl,K,X,O6,Zh jB,V⟩
     case measure=>exact Nat.sub_lt h0 Nat.one_pos
   ·have G:=G.out;have M:=Zh (pV 6 wr);obtain⟨F,R,S⟩:=G wr z;simp only[Bool.false_eq_true,if_false,if_true] at F;have p:Hid (∀k,fA w k->k.cell? (cA b o)=some (aA 6)/\k.cell? ⟨b,o+1,none⟩=some (bA u)/\k.cell? ⟨b,o+2,none⟩=some (bA x)):=Zh (fun k Q=>by have:=G k Q;simpa using this);clear G;go_wp2_with fail;refine M.mono ?_;rintro e N ⟨rfl,D⟩;have f:=Zh (z.trans (D.mono I));have J:=Zh (P.below D Zl);have a3:w.heap.size<=N.heap.size:=f.size;clear D M z P F R S;obtain⟨F,R,S⟩:=p N f;have T:=p N f;go_upto_region 3 with fail;go_region_held3 (fun w'=>w'.cell? (cA b o)=some (aA 6)/\w'.cell? ⟨b,o+1,none⟩=some (bA u)/\w'.cell? ⟨b,o+2,none⟩=some (bA x)) (first|go_keep|exact T) ((first
     |(refine kA.FL rfl (.tmp 15) (.tmp 30) rfl (v:=.slice A' n' c') (l:=H) (m:=[⟨u,x,true⟩]) (B:=w.heap.size) rfl (by repeat (first|exact J|refine Kind.Own.alloc ?_ _|refine Kind.Own.drewN ?_ _|refine Kind.Own.drew ?_)) rfl rfl KF (Kind.AA.lit (by first|exact heap_alloc_new _ _|exact heap_drew (yD rfl)|exact yD rfl) rfl) dA (by have:=f.size;simp;omega) ?_;intro v' E d g U;obtain⟨A6,n6,c6,rfl,_,_,_,_,_⟩:=d.slice;have O6:=Zh d;have V:Hid (fA w E):=Zh (Below.grown (by first|exact(f.alloc f.size _).drew|exact f.alloc f.size _|exact(f.drew).alloc (by simpa using f.size) _) g (by have:=f.size;simp;omega) (fun i hi=>(J.lt hi).1));have T:=p E V;clear d g U)
     |fail))
    clear T p F R S f J;by_cases j:c=1
    ·have W:=Zh (q j);subst j;obtain rfl:n=1:=dA
     clear q s;go_wp2_with fail;go_roundw
     case rel=>exact⟨H++[⟨u,x,true⟩],L,_,0,0,A6,n6,c6,rfl,rfl,K,W,O6,Zh jB,V⟩
     case measure=>exact Nat.one_pos
    ·have X:=Zh (s j);have a4:¬c-1=0:=dA;clear q s;go_wp2_with fail;go_roundw
     case rel=>exact⟨H++[⟨u,x,true⟩],L,_,n-1,c-1,A6,n6,c6,rfl,rfl,K,X,O6,Zh jB,V⟩
     case measure=>exact Nat.sub_lt h0 Nat.one_pos
attribute [local go_sem ↓] Go.wp_at_zero Go.wp_at_succ
def UD:WV:=.mk 0 ⟨#[]⟩ ⟨#[]⟩ ⟨#[]⟩ ⟨none,0,0⟩ [] ⟨none,0,0⟩ []
def mK(w:World)(C:Nat)(t:PW)(rest:List In)(e:Ending)(w':World):Prop:=∃(tv:WV) (A2:vA) (n2 c2:Nat),e= .returned (.tuple #[.agg (pL tv),.slice A2 n2 c2])/\er tv=t/\lC kW w' (fun b=>w.heap.size<=b) tv/\Rs w C A2 n2 c2 rest/\fA w w'
def AW(w:World)(C:Nat)(ps:List PW)(rest:List In)(e:Ending)(w':World):Prop:=∃(A:vA) (n c:Nat) (ts:List WV) (A2:vA) (n2 c2:Nat),e= .returned (.tuple #[.slice A n c,.slice A2 n2 c2])/\yA ts=ps/\kW.Own w' w.heap.size (.slice A n c) ts/\(∀t∈ts,lC kW w' (fun b=>w.heap.size<=b/\(Value.slice A n c).ownBlock≠some b) t)/\Rs w C A2 n2 c2 rest/\fA w w'
def Stop(l:List In):Prop:=∀x,l.head? = some x->x.op=2
def fL(ps:List PW):Prop:=∀(rest:List In) (A:vA) (n c C:Nat) (w:World),(∀t∈ps,tC t)->Stop rest->Rs w C A n c (sD ps++rest)->C<=w.heap.size->jA 200 #[.slice A n c] w (AW w C ps rest)
theorem pJ{w wr wf:World}{tv:WV}(z:WB wr w.heap.size UD)(new:lC kW wr (fun b=>w.heap.size<b) tv)(hb:fA w wr)(hs:iA (fun b=>b=w.heap.size) wr wf):lC kW wf (fun b=>w.heap.size<=b) tv/\fA w wf:=by
 refine⟨(new.but hs (fun b hb e=>by omega) (fun b a d e c=>?_)).mono fun b _ hb=>Nat.le_of_lt hb,rF hb hs⟩;subst e;exact WA c z pA rfl
structure nH(w wr:World)(g1 g2:Nat)(x:In)(tv:WV):Prop where
 z:WB wr w.heap.size UD
 l1:w.heap.size<g1
 l2:g1<g2
 x:XB wr g1 x
 t:WB wr g2 tv
 hb:fA w wr
section
variable{w wr w2:World}{x:In}{tag key txt:qA}{sa sk:Sv}{ats:List P3.At}{ks:List WV}{kind:Int}{g1 g2:Nat}
theorem nH.later(h:nH w wr g1 g2 x (.mk kind tag key txt sa ats sk ks))(hb:fA wr w2):nH w w2 g1 g2 x (.mk kind tag key txt sa ats sk ks):=⟨h.z.below hb h.z.lt,h.l1,h.l2,h.x.below hb h.x.lt,h.t.below hb h.t.lt,h.hb.trans (hb.mono h.hb.size)⟩
theorem nH.EW(h:nH w wr g1 g2 x (.mk kind tag key txt sa ats sk ks))(sa':Sv)(ats':List P3.At):nH w (wr.setCell (cA g2 4) (.slice sa'.A sa'.n sa'.c)) g1 g2 x (.mk kind tag key txt sa' ats' sk ks):=by
 have:=h.l1;have:=h.l2;refine⟨(Below.heap_setCell _ _ _ _ (by simp only;omega)).trans h.z,h.l1,h.l2,(Below.heap_setCell _ _ _ _ (by simp only;omega)).trans h.x,heap_set h.t 4 _,?_⟩;exact h.hb.trans ((iA.setCell (S:=fun b=>b=g2) (p:=(cA g2 4)) (iA.refl _ wr) (fun _=>rfl) _).eD (fun i _ a=>by omega) h.hb.size)
theorem nH.Mx(h:nH w wr g1 g2 x (.mk kind tag key txt sa ats sk ks))(sk':Sv)(ks':List WV):nH w (wr.setCell (cA g2 5) (.slice sk'.A sk'.n sk'.c)) g1 g2 x (.mk kind tag key txt sa ats sk' ks'):=by
 have:=h.l1;have:=h.l2;refine⟨(Below.heap_setCell _ _ _ _ (by simp only;omega)).trans h.z,h.l1,h.l2,(Below.heap_setCell _ _ _ _ (by simp only;omega)).trans h.x,heap_set h.t 5 _,?_⟩;exact h.hb.trans ((iA.setCell (S:=fun b=>b=g2) (p:=(cA g2 5)) (iA.refl _ wr) (fun _=>rfl) _).eD (fun i _ a=>by omega) h.hb.size)
theorem gL(w:World)(g i:Nat)(u:Value):iA (fun b=>b=g) w (w.setCell (cA g i) u):=iA.setCell (S:=fun b=>b=g) (p:=(cA g i)) (iA.refl _ w) (fun _=>rfl) _
theorem nH.QE(h:nH w wr g1 g2 x (.mk kind tag key txt sa ats sk ks)):vC wr (fun b=>b=g2):=fun b a d e c=>by
 subst e;exact WA c h.t pA rfl
end
theorem VV{w wr:World}{g1 g2:Nat}{x:In}{tag key:qA}{sa sk:Sv}{ats:List P3.At}{ks:List WV}{D:Nat}(h:nH w wr g1 g2 x (.mk 1 tag key zB sa ats sk ks))(ha:ZB wr sa ats)(own:kW.Own wr D (.slice sk.A sk.n sk.c) ks)(hD:w.heap.size<D)(hks:∀t∈ks,lC kW wr (fun b=>w.heap.size<b) t):
 lC kW wr (fun b=>w.heap.size<b) (.mk 1 tag key zB sa ats sk ks):=⟨ha,own.dE (Nat.zero_le _),fun b a=>by have:=(own.lt a).1;omega,hks⟩
theorem eg(tag key:qA)(ats:List P3.At)(kids:List PW)(rest:List In)(A:vA)(n c C:Nat)(w:World)(IH:fL kids)(hk:∀k∈kids,tC k)(h:Rs w C A n c (⟨1,tag,key⟩:: (ats.map vE++(sD kids++(⟨2,z0,z0⟩:: rest)))))(hC:C<=w.heap.size):
 jA 255 #[.slice A n c] w (mK w C (.mk 1 tag key z0 ats kids) rest):=by
 have HS:=Zh h;obtain⟨b,o,rfl,J,a4,a5,a6,hl,h0,f,g⟩:=h.cons;have a7:=Zh f;have S:=Zh g;have ab:=h.cap;have a8:=h.cm;have T:=Zh IH;have HK:=Zh hk;have CG:Hid (∀(i:World) (j:vA) (l m:Nat),fA w i->Rs w C j l m (ats.map vE++(sD kids++(⟨2,z0,z0⟩:: rest)))->jA 267 #[.slice j l m] i (zW i C ats (sD kids++(⟨2,z0,z0⟩:: rest)))):=Zh (fun i j l m hz hr=>
  oX ats _ j l m C i (ZX hk (sJ.cons rfl)) (hr.below hz hC) (Nat.le_trans hC hz.size))
 have CA:Hid (∀(i:World) (j:vA) (l m:Nat),fA w i->Rs i C j l m (sD kids++(⟨2,z0,z0⟩:: rest))->jA 200 #[.slice j l m] i (AW i C kids (⟨2,z0,z0⟩:: rest))):=Zh (fun i j l m hz hr=>
  T (⟨2,z0,z0⟩:: rest) j l m C i hk (fun x hx=>by injection hx with hx;rw[<-hx]) hr (Nat.le_trans hC hz.size))
 clear h f g IH hk;have K:b<w.heap.size:=Nat.lt_of_lt_of_le J hC;have i1:(1:Int)<=(n:Int):=dA;have i2:(n:Int)<=(c:Int):=dA;have ac:c<=9223372036854775807:=(by unfold maxLen at a8;omega);have L:¬c=1:=(by simp at hl;omega);have HR:=Zh (S L);have af:¬c-1=0:=dA;clear a7 S HS T HK hl;go_enter func255,ntmps255;go_upto_region 1 with fail;have U:Hid (WB (w.alloc (.cells #[aA 0,oA,oA,oA,tA,tA] 268)) w.heap.size UD):=Zh (WB.new w UD);have M:Hid (fA w (w.alloc (.cells #[aA 0,oA,oA,oA,tA,tA] 268))):=Zh (Zb _ _);generalize w.alloc (.cells #[aA 0,oA,oA,oA,tA,tA] 268)=q at U M|-;have g0:=(M.cell (p:=(cA b o)) K).trans a4;have g1:=(M.cell (p:=⟨b,o+1,none⟩) K).trans a5;have g2:=(M.cell (p:=⟨b,o+2,none⟩) K).trans a6;go_upto_region 2 with fail;have u:Hid (XB (q.alloc (.cells #[aA 1,bA tag,bA key] 183)) q.heap.size ⟨1,tag,key⟩):=Zh (XB.new q ⟨1,tag,key⟩);have b1:fA q (q.alloc (.cells #[aA 1,bA tag,bA key] 183)):=Zb _ _;generalize q.alloc (.cells #[aA 1,bA tag,bA key] 183)=y at u b1|-;have Z1:=Zh (U.below b1 U.lt);have B1:=Zh (M.trans (b1.mono M.size));have l1:w.heap.size<q.heap.size:=U.lt;generalize q.heap.size=k1 at u l1|-;clear b1 g0 g1 g2 U M;have x1:=u.c1;have x2:=u.c2;simp only at x1 x2;go_upto_region 3 with fail;have Q:Hid (nH w (y.alloc (.cells #[aA 1,bA tag,bA key,oA,tA,tA] 268)) k1 y.heap.size ⟨1,tag,key⟩ (.mk 1 tag key zB ⟨none,0,0⟩ [] ⟨none,0,0⟩ [])):=Zh (by
  have b2:fA y (y.alloc (.cells #[aA 1,bA tag,bA key,oA,tA,tA] 268)):=Zb _ _;exact⟨Z1.below b2 Z1.lt,l1,u.lt,u.below b2 u.lt,WB.new y (.mk 1 tag key zB ⟨none,0,0⟩ [] ⟨none,0,0⟩ []),B1.trans (b2.mono B1.size)⟩)
 generalize y.alloc (.cells #[aA 1,bA tag,bA key,oA,tA,tA] 268)=w2 at Q|-;generalize y.heap.size=r at Q|-;clear u Z1 B1 x1 x2;go_wp2_with fail;refine(CG w2 _ _ _ Q.hb HR).mono ?_;rintro e w3 ⟨z,B,D,A4,n4,c4,rfl,o3,r4,b3⟩;have V:=Zh (Q.later b3);have R4:=Zh (r4.back Q.hb hC);obtain⟨sa,a9,W⟩:=ZB.own o3;obtain⟨sA,sn,sc⟩:=sa;injection a9 with e1 e2 e3;subst e1;subst e2;subst e3;have s:=Zh (V.EW ⟨z,B,D⟩ ats);have N:=Zh (W.but (gL w3 r 4 (.slice z B D)) V.QE);have t4:=V.t.c4;have tf:=V.t.fr;simp only[WV.sa] at t4;clear o3 r4 b3 W Q CG HR;go_upto_region 4 with fail;generalize w3.setCell (cA r 4) (.slice z B D)=w4 at s N|-;clear t4 tf V;have x0:=s.x.c0;simp only at x0;go_wp2_with fail;refine(CA w4 _ _ _ s.hb (R4.below s.hb hC)).mono ?_;rintro e w5 ⟨E,F,G,ks,A6,n6,X,rfl,Y,H,I,r6,b5⟩;have R:=Zh (s.later b5);have R6:=Zh (r6.back s.hb hC);have Z:=Zh (N.below b5);have a0:=Zh Y;have O:=Zh H;have a1:=Zh I;have lk:r<w4.heap.size:=s.t.lt;have lw:w.heap.size<w4.heap.size:=s.z.lt;have a:=Zh (R.Mx ⟨E,F,G⟩ ks);have N6:Hid (lC kW (w5.setCell (cA r 5) (.slice E F G)) (fun b=>w.heap.size<b) (.mk 1 tag key zB ⟨z,B,D⟩ ats ⟨E,F,G⟩ ks)):=Zh (VV a (Z.but (gL w5 r 5 _) R.QE) (O.VB (fun b J=>Below.heap_setCell _ _ _ _ (show b≠r by have:=(O.lt J).1;omega))) lw (fun t ht=>((a1 t ht).but (gL w5 r 5 _) (fun b J e=>by have:=J.1;omega) R.QE).mono (fun b _ J=>by have:=J.1;omega)));have t5:=R.t.c5;have tf:=R.t.fr;simp only[WV.sk] at t5;clear Y H I r6 b5 x0 s N CA R4;go_upto_region 6 with fail;generalize w5.setCell (cA r 5) (.slice E F G)=w6 at a N6|-;clear t5 tf R Z O a1;obtain⟨b6,o6,rfl,ag,_,_,_,ah,ai,f,g⟩:=R6.cons;have ad:=R6.cap;have a2:=R6.cm;have j1:(1:Int)<=(n6:Int):=dA;have j2:(n6:Int)<=(X:Int):=dA;have aa:X<=9223372036854775807:=(by unfold maxLen at a2;omega);have t0:=a.t.c0;have t1:=a.t.c1;have t2:=a.t.c2;have t3:=a.t.c3;have t4:=a.t.c4;have t5:=a.t.c5;have z0:=a.z.c0;have z1:=a.z.c1;have z2:=a.z.c2;have z3:=a.z.c3;have z4:=a.z.c4;have z5:=a.z.c5;simp only[WV.kind,WV.tag,WV.key,WV.txt,WV.sa,WV.sk,UD,zB] at t0 t1 t2 t3 t4 t5 z0 z1 z2 z3 z4 z5;have zf:=a.z.fr;have a3:w.heap.size<w6.heap.size:=a.z.lt;have aj:r≠w.heap.size:=(by have:=a.l1;have:=a.l2;omega);by_cases d:X=1
 ·have P:=Zh (f d);subst d;obtain rfl:n6=1:=dA
  clear f g;go_wp2_with fail;refine bodyPost_ret (v:=.tuple #[.agg #[aA 1,bA tag,bA key,oA,.slice z B D,.slice E F G],.slice (some (cA b6 o6)) (0) (0)]) (by simp[results,results255,go_sem,z0,z1,z2,z3,z4,z5,a3]) rfl ⟨.mk 1 tag key zB ⟨z,B,D⟩ ats ⟨E,F,G⟩ ks,_,_,_,rfl,by rw[er,a0.out];rfl,?_,P,?_⟩
  ·exact(pJ a.z N6 a.hb (mA (mA (mA (mA (mA (mA (iA.refl _ _)))))))).1
  ·exact(pJ a.z N6 a.hb (mA (mA (mA (mA (mA (mA (iA.refl _ _)))))))).2
 ·have P:=Zh (g d);have ae:¬X-1=0:=dA;clear f g;go_wp2_with fail;refine bodyPost_ret (v:=.tuple #[.agg #[aA 1,bA tag,bA key,oA,.slice z B D,.slice E F G],.slice (some ⟨b6,o6+3,none⟩) (n6-1) (X-1)]) (by simp[results,results255,go_sem,z0,z1,z2,z3,z4,z5,a3]) rfl ⟨.mk 1 tag key zB ⟨z,B,D⟩ ats ⟨E,F,G⟩ ks,_,_,_,rfl,by rw[er,a0.out];rfl,?_,P,?_⟩
  ·exact(pJ a.z N6 a.hb (mA (mA (mA (mA (mA (mA (iA.refl _ _)))))))).1
  ·exact(pJ a.z N6 a.hb (mA (mA (mA (mA (mA (mA (iA.refl _ _)))))))).2
theorem ig(tag key:qA)(ats:List P3.At)(rest:List In)(A:vA)(n c C:Nat)(w:World)(hT:sJ rest)(h:Rs w C A n c (⟨3,tag,key⟩:: (ats.map vE++rest)))(hC:C<=w.heap.size):
 jA 255 #[.slice A n c] w (mK w C (.mk 1 tag key z0 ats []) rest):=by
 obtain⟨b,o,rfl,hb,N,O,P,hl,h0,Q,R⟩:=h.cons;have E:=Zh Q;have F:=Zh R;have a2:=h.cap;have a0:=h.cm;have CG:Hid (∀(S:World) (A':vA) (n' c':Nat),fA w S->Rs w C A' n' c' (ats.map vE++rest)->jA 267 #[.slice A' n' c'] S (zW S C ats rest)):=Zh (fun S A' n' c' hz hr=>
  oX ats _ A' n' c' C S hT (hr.below hz hC) (Nat.le_trans hC hz.size))
 clear h Q R hT hl;have k:b<w.heap.size:=Nat.lt_of_lt_of_le hb hC;have i1:(1:Int)<=(n:Int):=dA;have i2:(n:Int)<=(c:Int):=dA;have a3:c<=9223372036854775807:=(by unfold maxLen at a0;omega);by_cases i:c=1
 ·have T:=Zh (E i);subst i;obtain rfl:n=1:=dA
  clear E F;go_enter func255,ntmps255;go_upto_region 1 with fail;have s:Hid (WB (w.alloc (.cells #[aA 0,oA,oA,oA,tA,tA] 268)) w.heap.size UD):=Zh (WB.new w UD);have j:Hid (fA w (w.alloc (.cells #[aA 0,oA,oA,oA,tA,tA] 268))):=Zh (Zb _ _);generalize w.alloc (.cells #[aA 0,oA,oA,oA,tA,tA] 268)=d at s j|-;have g0:=(j.cell (p:=(cA b o)) k).trans N;have g1:=(j.cell (p:=⟨b,o+1,none⟩) k).trans O;have g2:=(j.cell (p:=⟨b,o+2,none⟩) k).trans P;go_upto_region 2 with fail;have f:Hid (XB (d.alloc (.cells #[aA 3,bA tag,bA key] 183)) d.heap.size ⟨3,tag,key⟩):=Zh (XB.new d ⟨3,tag,key⟩);have z:fA d (d.alloc (.cells #[aA 3,bA tag,bA key] 183)):=Zb _ _;generalize d.alloc (.cells #[aA 3,bA tag,bA key] 183)=g at f z|-;have G:=Zh (s.below z s.lt);have H:=Zh (j.trans (z.mono j.size));have U:w.heap.size<d.heap.size:=s.lt;generalize d.heap.size=k1 at f U|-;clear z g0 g1 g2 s j;have V:=f.c1;have W:=f.c2;simp only at V W;go_upto_region 3 with fail;have l:Hid (nH w (g.alloc (.cells #[aA 1,bA tag,bA key,oA,tA,tA] 268)) k1 g.heap.size ⟨3,tag,key⟩ (.mk 1 tag key zB ⟨none,0,0⟩ [] ⟨none,0,0⟩ [])):=Zh (by
   have I:fA g (g.alloc (.cells #[aA 1,bA tag,bA key,oA,tA,tA] 268)):=Zb _ _;exact⟨G.below I G.lt,U,f.lt,f.below I f.lt,WB.new g (.mk 1 tag key zB ⟨none,0,0⟩ [] ⟨none,0,0⟩ []),H.trans (I.mono H.size)⟩)
  generalize g.alloc (.cells #[aA 1,bA tag,bA key,oA,tA,tA] 268)=w2 at l|-;generalize g.heap.size=J at l|-;clear f G H V W;go_wp2_with fail;refine(CG w2 _ _ _ l.hb T).mono ?_;rintro e X ⟨m,q,r,A4,n4,c4,rfl,Y,Z,b3⟩;have u:=Zh (l.later b3);have R4:=Zh (Z.back l.hb hC);obtain⟨sa,K,x⟩:=ZB.own Y;obtain⟨sA,sn,sc⟩:=sa;injection K with e1 e2 e3;subst e1;subst e2;subst e3;have a:=Zh (u.EW ⟨m,q,r⟩ ats);have y:=Zh (x.but (gL X J 4 (.slice m q r)) u.QE);have B:=u.t.c4;have tf:=u.t.fr;simp only[WV.sa] at B;clear Y Z b3 x l CG T;go_upto_region 4 with fail;generalize X.setCell (cA J 4) (.slice m q r)=w4 at a y|-;clear B tf u;have x0:=a.x.c0;simp only at x0;have N4:Hid (lC kW w4 (fun b=>w.heap.size<b) (.mk 1 tag key zB ⟨m,q,r⟩ ats ⟨none,0,0⟩ [])):=Zh (VV (D:=w.heap.size+1) a y (Kind.Own.nil kW _ _) (Nat.lt_succ_self _) (fun t ht=>by cases ht));have L:=R4;have t0:=a.t.c0;have t1:=a.t.c1;have t2:=a.t.c2;have t3:=a.t.c3;have B:=a.t.c4;have t5:=a.t.c5;have z0:=a.z.c0;have z1:=a.z.c1;have z2:=a.z.c2;have z3:=a.z.c3;have z4:=a.z.c4;have z5:=a.z.c5;simp only[WV.kind,WV.tag,WV.key,WV.txt,WV.sa,WV.sk,UD,zB] at t0 t1 t2 t3 B t5 z0 z1 z2 z3 z4 z5;have zf:=a.z.fr;have M:w.heap.size<w4.heap.size:=a.z.lt;have a1:J≠w.heap.size:=(by have:=a.l1;have:=a.l2;omega);go_wp2_with fail;refine bodyPost_ret (v:=.tuple #[.agg #[aA 1,bA tag,bA key,oA,.slice m q r,tA],.slice A4 n4 c4]) (by simp[results,results255,go_sem,z0,z1,z2,z3,z4,z5,M]) rfl ⟨.mk 1 tag key zB ⟨m,q,r⟩ ats ⟨none,0,0⟩ [],_,_,_,rfl,by rw[er,yA];rfl,?_,L,?_⟩
  ·exact(pJ a.z N4 a.hb (mA (mA (mA (mA (mA (mA (iA.refl _ _)))))))).1
  ·exact(pJ a.z N4 a.hb (mA (mA (mA (mA (mA (mA (iA.refl _ _)))))))).2
 ·have T:=Zh (F i);have a4:¬c-1=0:=dA;clear E F;go_enter func255,ntmps255;go_upto_region 1 with fail;have s:Hid (WB (w.alloc (.cells #[aA 0,oA,oA,oA,tA,tA] 268)) w.heap.size UD):=Zh (WB.new w UD);have j:Hid (fA w (w.alloc (.cells #[aA 0,oA,oA,oA,tA,tA] 268))):=Zh (Zb _ _);generalize w.alloc (.cells #[aA 0,oA,oA,oA,tA,tA] 268)=d at s j|-;have g0:=(j.cell (p:=(cA b o)) k).trans N;have g1:=(j.cell (p:=⟨b,o+1,none⟩) k).trans O;have g2:=(j.cell (p:=⟨b,o+2,none⟩) k).trans P;go_upto_region 2 with fail;have f:Hid (XB (d.alloc (.cells #[aA 3,bA tag,bA key] 183)) d.heap.size ⟨3,tag,key⟩):=Zh (XB.new d ⟨3,tag,key⟩);have z:fA d (d.alloc (.cells #[aA 3,bA tag,bA key] 183)):=Zb _ _;generalize d.alloc (.cells #[aA 3,bA tag,bA key] 183)=g at f z|-;have G:=Zh (s.below z s.lt);have H:=Zh (j.trans (z.mono j.size));have U:w.heap.size<d.heap.size:=s.lt;generalize d.heap.size=k1 at f U|-;clear z g0 g1 g2 s j;have V:=f.c1;have W:=f.c2;simp only at V W;go_upto_region 3 with fail;have l:Hid (nH w (g.alloc (.cells #[aA 1,bA tag,bA key,oA,tA,tA] 268)) k1 g.heap.size ⟨3,tag,key⟩ (.mk 1 tag key zB ⟨none,0,0⟩ [] ⟨none,0,0⟩ [])):=Zh (by
   have I:fA g (g.alloc (.cells #[aA 1,bA tag,bA key,oA,tA,tA] 268)):=Zb _ _;exact⟨G.below I G.lt,U,f.lt,f.below I f.lt,WB.new g (.mk 1 tag key zB ⟨none,0,0⟩ [] ⟨none,0,0⟩ []),H.trans (I.mono H.size)⟩)
  generalize g.alloc (.cells #[aA 1,bA tag,bA key,oA,tA,tA] 268)=w2 at l|-;generalize g.heap.size=J at l|-;clear f G H V W;go_wp2_with fail;refine(CG w2 _ _ _ l.hb T).mono ?_;rintro e X ⟨m,q,r,A4,n4,c4,rfl,Y,Z,b3⟩;have u:=Zh (l.later b3);have R4:=Zh (Z.back l.hb hC);obtain⟨sa,K,x⟩:=ZB.own Y;obtain⟨sA,sn,sc⟩:=sa;injection K with e1 e2 e3;subst e1;subst e2;subst e3;have a:=Zh (u.EW ⟨m,q,r⟩ ats);have y:=Zh (x.but (gL X J 4 (.slice m q r)) u.QE);have B:=u.t.c4;have tf:=u.t.fr;simp only[WV.sa] at B;clear Y Z b3 x l CG T;go_upto_region 4 with fail;generalize X.setCell (cA J 4) (.slice m q r)=w4 at a y|-;clear B tf u;have x0:=a.x.c0;simp only at x0;have N4:Hid (lC kW w4 (fun b=>w.heap.size<b) (.mk 1 tag key zB ⟨m,q,r⟩ ats ⟨none,0,0⟩ [])):=Zh (VV (D:=w.heap.size+1) a y (Kind.Own.nil kW _ _) (Nat.lt_succ_self _) (fun t ht=>by cases ht));have L:=R4;have t0:=a.t.c0;have t1:=a.t.c1;have t2:=a.t.c2;have t3:=a.t.c3;have B:=a.t.c4;have t5:=a.t.c5;have z0:=a.z.c0;have z1:=a.z.c1;have z2:=a.z.c2;have z3:=a.z.c3;have z4:=a.z.c4;have z5:=a.z.c5;simp only[WV.kind,WV.tag,WV.key,WV.txt,WV.sa,WV.sk,UD,zB] at t0 t1 t2 t3 B t5 z0 z1 z2 z3 z4 z5;have zf:=a.z.fr;have M:w.heap.size<w4.heap.size:=a.z.lt;have a1:J≠w.heap.size:=(by have:=a.l1;have:=a.l2;omega);go_wp2_with fail;refine bodyPost_ret (v:=.tuple #[.agg #[aA 1,bA tag,bA key,oA,.slice m q r,tA],.slice A4 n4 c4]) (by simp[results,results255,go_sem,z0,z1,z2,z3,z4,z5,M]) rfl ⟨.mk 1 tag key zB ⟨m,q,r⟩ ats ⟨none,0,0⟩ [],_,_,_,rfl,by rw[er,yA];rfl,?_,L,?_⟩
  ·exact(pJ a.z N4 a.hb (mA (mA (mA (mA (mA (mA (iA.refl _ _)))))))).1
  ·exact(pJ a.z N4 a.hb (mA (mA (mA (mA (mA (mA (iA.refl _ _)))))))).2
end P14
namespace P10
open Go.RowKit Kd P4 P5 P8 P9
theorem index_one(c:UInt8):∀s:uA,Lib.index s [c]=if kD s [c]<s.length then((kD s [c]:Nat):Int) else -1
 |[]=>rfl
 |b:: l=>by
  by_cases h:b=c
  ·subst h;rw[sZ FA,Lib.index,if_pos (by simp[List.isPrefixOf])];simp
  ·have h':c≠b:=fun e=>h e.symm
   have hp:List.isPrefixOf [c] (b:: l)=false:=by
    simp only[List.isPrefixOf,Bool.and_true];exact beq_false_of_ne h'
   rw[VO (by simpa using h),Lib.index,hp,if_neg pA,index_one c l,List.length_cons];by_cases hl:kD l [c]<l.length
   ·rw[if_pos hl,if_neg (by simp only[beq_iff_eq];omega),if_pos dA];omega
   ·rw[if_neg hl,if_pos (by rfl),if_neg dA]
theorem nP(s:uA)(c:UInt8):Lib.cut s [c]=(s.take (kD s [c]),s.drop (kD s [c]+1),decide (kD s [c]<s.length)):=by
 have b:=sN s [c];unfold Lib.cut;rw[index_one];by_cases a:kD s [c]<s.length
 ·rw[if_pos a,if_pos dA];simp[a]
 ·rw[if_neg a,if_neg dA,List.take_of_length_le dA,List.drop_of_length_le dA];simp[a]
theorem Qj{x r:uA}(h:∀c∈x,c≠61):Lib.index (x++61:: 34:: r) [61,34]=(x.length:Int):=by
 induction x with
 |nil=>simp[Lib.index,List.isPrefixOf]
 |cons a x ih=>
  have b:a≠61:=h a FA;rw[List.cons_append,Lib.index,ih (fun c d=>h c (by simp[d]))];have:List.isPrefixOf [61,34] (a:: (x++61:: 34:: r))=false:=by
   simp only[List.isPrefixOf,Bool.and_eq_false_iff]
   left
   simpa using fun e:(61:UInt8)=a=>b e.symm
  rw[if_neg (by rw[this];decide),if_neg (by simp only[beq_iff_eq];omega)];simp
theorem Gs{x r:uA}(h:∀c∈x,c≠61):Lib.cut (x++61:: 34:: r) [61,34]=(x,r,true):=by
 unfold Lib.cut;rw[Qj h,if_pos dA];simp
theorem mI(s sep:uA):(Lib.cut s sep).1.length+(Lib.cut s sep).2.1.length<=s.length:=by
 unfold Lib.cut;split
 ·simp only[List.length_take,List.length_drop];omega
 ·simp
def UG:Nat->uA->List P3.At->List P3.At
 |0,_,acc=>acc
 |f+1,s,acc=>
  if s=[] then acc
  else
   let p:=Lib.cut (s.drop 1) [61,34]
   let q:=Lib.cut p.2.1 [34]
   UG f q.2.1 (acc++[⟨bs p.1,bs (GG q.1),false⟩])
def UH(s:uA):List P3.At:=UG (s.length+1) s []
def BG(g:uA->List PT×uA)(s:uA):PT×uA:=
 let p:=Lib.cut (s.drop 1) [62]
 let tag:=(Lib.cut p.1 [32]).1
 let ats:=UH (p.1.drop tag.length)
 if P1.dC tag then(rG tag ats [],p.2.1)
 else
  let k:=g p.2.1
  (rG tag ats k.1,Lib.trimPrefix k.2 (60:: 47:: (tag++[62])))
def mH(s:uA):PT×uA:=(xG (GG (Lib.cut s [60]).1),s.drop (Lib.cut s [60]).1.length)
def dD:Nat->uA->List PT->List PT×uA
 |0,s,acc=>(acc,s)
 |f+1,s,acc=>
  if s=[]\/Lib.hasPrefix s [60,47]=true then(acc,s)
  else if s.head? = some 60 then
   let p:=BG (fun s=>dD f s []) s
   dD f p.2 (acc++[p.1])
  else
   let p:=mH s
   dD f p.2 (acc++[p.1])
def ZG(s:uA):List PT×uA:=dD (s.length+1) s []
theorem zd:∀(f:Nat) (s:uA) (acc:List P3.At),wA (UG f s acc)<=wA acc+s.length
 |0,s,acc=>by rw[UG];omega
 |f+1,s,acc=>by
  rw[UG];split
  ·omega
  ·rename_i hs;have h1:=mI (s.drop 1) [61,34];simp only;have h2:=mI (Lib.cut (s.drop 1) [61,34]).2.1 [34];have h3:=MQ (Lib.cut (Lib.cut (s.drop 1) [61,34]).2.1 [34]).1;have ih:=zd f (Lib.cut (Lib.cut (s.drop 1) [61,34]).2.1 [34]).2.1 (acc++[⟨bs (Lib.cut (s.drop 1) [61,34]).1,bs (GG (Lib.cut (Lib.cut (s.drop 1) [61,34]).2.1 [34]).1),false⟩]);have zG:0<s.length:=List.length_pos_iff.2 hs;rw[uZ] at ih;simp only[wA,List.map_cons,List.map_nil,List.sum_cons,List.sum_nil,NF,List.length_drop] at ih h1|-;omega
theorem Co(s:uA):wA (UH s)<=s.length:=by
 have:=zd (s.length+1) s [];simp only[wA,List.map_nil,List.sum_nil] at this|-;unfold UH;omega
theorem Eo(s p:uA):(Lib.trimPrefix s p).length<=s.length:=by
 unfold Lib.trimPrefix;split
 ·simp
 ·exact Zl
theorem Ih(s:uA):(Lib.cut s [32]).1.length<=s.length:=by have:=mI s [32];omega
theorem Ad{g:uA->List PT×uA}{s:uA}(hs:s≠[])(hg:∀r,wL (g r).1+2*(g r).2.length<=2*r.length):wP (BG g s).1+2*(BG g s).2.length<=2*s.length/\(BG g s).2.length<s.length:=by
 have a:0<s.length:=List.length_pos_iff.2 hs;unfold BG;have b:=mI (s.drop 1) [62];simp only;generalize Lib.cut (s.drop 1) [62]=p at b|-;have d:=Ih p.1;generalize (Lib.cut p.1 [32]).1=tag at d|-;have c:=Co (p.1.drop tag.length);generalize UH (p.1.drop tag.length)=e at c|-;have f:=hg p.2.1;generalize g p.2.1=k at f|-;have i:=Eo k.2 (60:: 47:: (tag++[62]));rw[List.length_drop] at b c;split
 ·simp only[sM,wL];omega
 ·simp only[sM];omega
theorem Cd{s:uA}(h0:s≠[])(h60:s.head?≠some 60):wP (mH s).1+2*(mH s).2.length<=2*s.length/\(mH s).2.length<s.length:=by
 have b:1<=kD s [60]:=by
  cases s with
  |nil=>simp at h0
  |cons c r=>
   rw[VO (by
    simp only[List.head?_cons,ne_eq,Option.some.injEq] at h60;simpa using h60)]
   omega
 have d:=sN s [60];have a:=MQ (s.take (kD s [60]));unfold mH;simp only[nP,Xa,List.length_drop,List.length_take] at a|-;omega
theorem TP:∀(f:Nat) (s:uA) (acc:List PT),wL (dD f s acc).1+2*(dD f s acc).2.length<=wL acc+2*s.length
 |0,s,acc=>by rw[dD];exact Zl
 |f+1,s,acc=>by
  rw[dD];split
  ·exact Zl
  ·rename_i h0;have h00:s≠[]:=fun e=>h0 (.inl e)
   split
   ·have hE:=(Ad (g:=fun s=>dD f s []) h00 (fun r=>by have:=TP f r [];simp only[wL] at this|-;omega)).1;have:=TP f (BG (fun s=>dD f s []) s).2 (acc++[(BG (fun s=>dD f s []) s).1]);simp only[zL,wL] at this|-;omega
   ·rename_i h60;have hT:=(Cd h00 h60).1;have:=TP f (mH s).2 (acc++[(mH s).1]);simp only[zL,wL] at this|-;omega
theorem Pu(s:uA):wL (ZG s).1<=2*s.length:=by
 have:=TP (s.length+1) s [];simp only[wL] at this;unfold ZG;omega
theorem G8:∀(f:Nat) (s:uA) (acc:List P3.At),acc.all (fun a=>!a.st)=true->(UG f s acc).all (fun a=>!a.st)=true
 |0,s,acc,h=>by rw[UG];exact h
 |f+1,s,acc,h=>by
  rw[UG];split
  ·exact h
  ·exact G8 f _ _ (by rw[List.all_append,h];rfl)
theorem Fo{g:uA->List PT×uA}{s:uA}(hg:∀r,mE (g r).1=true):gH (BG g s).1=true:=by
 unfold BG;simp only;have b:(UH ((Lib.cut (s.drop 1) [62]).1.drop (Lib.cut (Lib.cut (s.drop 1) [62]).1 [32]).1.length)).all (fun a=>!a.st)=true:=G8 _ _ [] rfl;split
 ·exact cM _ b rfl
 ·exact cM _ b (hg _)
theorem lR:∀(f:Nat) (s:uA) (acc:List PT),mE acc=true->mE (dD f s acc).1=true
 |0,s,acc,h=>by rw[dD];exact h
 |f+1,s,acc,h=>by
  rw[dD];split
  ·exact h
  ·split
   ·exact lR f _ _ (by rw[yO,h,mE,Fo (g:=fun s=>dD f s []) (fun r=>lR f r [] rfl)];rfl)
   ·exact lR f _ _ (by rw[yO,h,mE,mH,vZ];rfl)
def MI(p:uA):List PT:=if p=[] then[] else[xG p]
mutual
def FJ:PT->PT
 | .mk tag txt key attrs kids=> .mk tag txt key attrs (wE kids [])
def wE:List PT->uA->List PT
 |[],p=>MI p
 |a:: l,p=>if a.tag.toList.isEmpty then wE l (p++a.txt.data.toList) else MI p++FJ a:: wE l []
end
theorem Mc(a:PT):(FJ a).tag=a.tag:=by cases a;rw[FJ];rfl
theorem SQ(p:uA)(l:List PT)(h:sG l (!p.isEmpty)=true):sG (MI p++l) false=true:=by
 unfold MI;split
 ·rename_i hp;subst hp;exact h
 ·rename_i hp;have a:p.isEmpty=false:=(by simpa using hp);have b:(xG p).tag.toList.isEmpty=true:=lU;have c:(xG p).txt.toList.isEmpty=false:=by
   show(bs p).toList.isEmpty=false;rw[ByteArray.toList_eq,sH];exact a
  have d:vI (xG p)=true:=rfl;rw[List.singleton_append,sG,b,c,d];rw[a] at h;simpa using h
theorem Gw(t:PT):vI (FJ t)=true:=by
 induction t using PT.ind with
 |h tag txt key attrs kids ih=>
  have key:∀l:List PT,(∀k∈l,vI (FJ k)=true)->∀p,sG (wE l p) false=true:=by
   intro l
   induction l with
   |nil=>
    intro _ p;have:=SQ p [] rfl;rw[List.append_nil] at this;rw[wE];exact this
   |cons a l ihl=>
    intro h p;rw[wE];split
    ·exact ihl (fun k b=>h k (by simp[b])) _
    ·rename_i ha;refine SQ p _ ?_;rw[sG,Mc,h a FA];have c:a.tag.toList.isEmpty=false:=(by simpa using ha);rw[c,ihl (fun k b=>h k (by simp[b])) []];simp
  rw[FJ,vI];exact key kids ih []
theorem NV:∀(l:List PT) (p:uA),sG (wE l p) false=true
 |[],p=>by
  have:=SQ p [] rfl;rw[List.append_nil] at this;rw[wE];exact this
 |a:: l,p=>by
  rw[wE];split
  ·exact NV l _
  ·rename_i ha;refine SQ p _ ?_;rw[sG,Mc,Gw];have hb:a.tag.toList.isEmpty=false:=(by simpa using ha);rw[hb,NV l []];simp
theorem Hs{a:PT}(ht:a.tag.toList.isEmpty=true)(hm:iC a=true):a=xG a.txt.data.toList:=by
 obtain⟨tag,txt,key,attrs,kids⟩:=a;have ht:tag.toList.isEmpty=true:=ht;rw[iC,if_pos ht] at hm;simp only[Bool.and_eq_true] at hm;have b:kids=[]:=(by simpa using hm.2);have c:attrs=[]:=(by simpa using hm.1.2);have d:=QH hm.1.1.2;have e:=QH ht;subst b;subst c;subst d;subst e;rw[xG];show _=PT.mk _ (bs txt.data.toList) _ _ _;rw[PH]
theorem Rj(n:Nat):∀l:List PT,cB l<=n->gD l=true->(sG l false=true->wE l []=l)/\(∀p,p≠[]->sG l true=true->wE l p=xG p:: l):=by
 induction n with
 |zero=>
  intro l g _;cases l with
  |cons a l=>have:=NJ a;simp[cB] at g;omega
  |nil=>exact⟨fun _=>by rw[wE];rfl,fun p d _=>by rw[wE,MI,if_neg d]⟩
 |succ n ih=>
  intro l g i;cases l with
  |nil=>exact⟨fun _=>by rw[wE];rfl,fun p d _=>by rw[wE,MI,if_neg d]⟩
  |cons a l=>
   rw[cB] at g;have q:=NJ a;rw[gD,Bool.and_eq_true] at i;obtain⟨k,o⟩:=ih l dA i.2;have f:a.tag.toList.isEmpty=false->vI a=true->FJ a=a:=by
    intro b hx;obtain⟨tag,txt,key,attrs,kids⟩:=a;have b:tag.toList.isEmpty=false:=b;have c:=i.1;rw[iC,if_neg (by simp[b])] at c;simp only[Bool.and_eq_true] at c;rw[countP] at g;rw[vI] at hx;rw[FJ,(ih kids dA c.2).1 hx]
   constructor
   ·intro hx;rw[sG] at hx;simp only[Bool.and_eq_true] at hx;cases b:a.tag.toList.isEmpty with
    |true=>
     rw[b] at hx;have j:a.txt.data.toList≠[]:=by
      intro e;have m:=hx.1.2;rw[ByteArray.toList_eq,e] at m;simp at m
     rw[wE,if_pos b,List.nil_append,o _ j hx.2,<-Hs b i.1]
    |false=>
     rw[b] at hx;rw[wE,if_neg (by simp[b]),k hx.2,f b hx.1.1];rfl
   ·intro p d hx;rw[sG] at hx;simp only[Bool.and_eq_true] at hx;cases b:a.tag.toList.isEmpty with
    |true=>rw[b] at hx;simp at hx
    |false=>
     rw[b] at hx;rw[wE,if_neg (by simp[b]),k hx.2,f b hx.1.1,MI,if_neg d];rfl
theorem Hw{l:List PT}(hm:gD l=true)(hx:sG l false=true):wE l []=l:=(Rj _ l Zl hm).1 hx
theorem Nc:∀(ats:List P3.At) (f:Nat) (acc:List P3.At),(∀a∈ats,P1.JC a.nm.data.toList=true/\a.st=false)->ats.length<f->UG f (EB ats) acc=acc++ats
 |[],f,acc,_,hf=>by
  obtain⟨f,rfl⟩:∃g,f=g+1:=⟨f-1,by simp at hf;omega⟩;rw[UG,if_pos (by simp[EB])];simp
 |a:: ats,f,acc,ha,hf=>by
  obtain⟨f,rfl⟩:∃g,f=g+1:=⟨f-1,by omega⟩;have h1:=EN (ha a FA).1;have e:EB (a:: ats)=32:: (a.nm.data.toList++61:: 34:: (P2.SA a.vl.data.toList++(34:: EB ats))):=(by simp[EB,uJ]);rw[UG,if_neg (by rw[e];simp),e];simp only[List.drop_succ_cons,List.drop_zero];rw[Gs (fun c hc=>(rM (h1.2 c hc)).2.2.1)];simp only;have u2:kD (P2.SA a.vl.data.toList++(34:: EB ats)) [34]=(P2.SA a.vl.data.toList).length:=RJ (fun c hc=>by
   have:=(P2.tL hc).2.2;simpa using this) (.inr ⟨34,_,rfl,by decide⟩)
  rw[nP,u2];simp only[List.take_left];rw[show(P2.SA a.vl.data.toList++(34:: EB ats)).drop ((P2.SA a.vl.data.toList).length+1)=EB ats by rw[<-List.drop_drop,List.drop_left];rfl];rw[KQ,PH,PH,Nc ats f _ (fun b hb=>ha b (by simp[hb])) (by simp at hf;omega)];have e2:(⟨a.nm,a.vl,false⟩:P3.At)=a:=(by rw[<-(ha a FA).2]);rw[e2];simp
theorem Sf{ats:List P3.At}(h:∀a∈ats,P1.JC a.nm.data.toList=true/\a.st=false):∀c∈EB ats,c≠62:=by
 intro c d;simp only[EB,List.mem_flatMap,uJ,List.mem_cons,List.mem_append,List.not_mem_nil,or_false] at d;obtain⟨a,e,b⟩:=d;have f:=EN (h a e).1;rcases b with rfl|b|rfl|rfl|b|rfl
 ·decide
 ·exact(rM (f.2 c b)).2.1
 ·decide
 ·decide
 ·exact(P2.tL b).2.1
 ·decide
theorem Jh(p u:uA):Lib.trimPrefix (p++u) p=u:=by
 unfold Lib.trimPrefix;rw[if_pos (P2.kQ p u),List.drop_left]
theorem Qu{g:uA->List PT×uA}{tag txt key:qA}{attrs:List P3.At}{kids ks:List PT}{u:uA}(ht:tag.toList.isEmpty=false)(hm:iC (.mk tag txt key attrs kids)=true)(hp:gH (.mk tag txt key attrs kids)=true)(hk0:kids=[]->ks=[])
 (hg:P1.dC tag.data.toList=false->g (dB kids++60:: 47:: (tag.data.toList++62:: u))=(ks,60:: 47:: (tag.data.toList++62:: u))):BG g (wC (.mk tag txt key attrs kids)++u)=(.mk tag txt key attrs ks,u):=by
 rw[iC,if_neg (by simp[ht])] at hm;simp only[Bool.and_eq_true] at hm;obtain⟨⟨⟨⟨⟨q,_⟩,s⟩,t⟩,m⟩,D⟩:=hm;rw[gH,Bool.and_eq_true,Bool.and_eq_true] at hp;obtain⟨⟨w,sa⟩,_⟩:=hp;have hx:=QH t;have x:=QH w;have d:=EN q;have n:=J6 s sa;obtain⟨v,y,b⟩:∃v,wC (.mk tag txt key attrs kids)++u=60:: ((tag.data.toList++EB attrs)++62:: v)/\v=(if P1.dC tag.data.toList then u else dB kids++60:: 47:: (tag.data.toList++62:: u)):=by
  refine⟨_,?_,rfl⟩;cases hvd:P1.dC tag.data.toList with
  |true=>rw[aN ht hvd];simp[fG]
  |false=>rw[IK ht hvd];simp[fG]
 rw[y];have z:kD ((tag.data.toList++EB attrs)++62:: v) [62]=(tag.data.toList++EB attrs).length:=RJ (fun c f=>by
  have i:c≠62:=by
   rcases List.mem_append.1 f with h|h
   ·exact(rM (d.2 c h)).2.1
   ·exact Sf n c h
  simpa using i) (.inr ⟨62,_,rfl,by decide⟩)
 have A:Stop (fun c=>!([32]:uA).contains c) (EB attrs):=by
  cases attrs with
  |nil=>exact .inl rfl
  |cons a r=>exact .inr ⟨32,_,rfl,by decide⟩
 have B:kD (tag.data.toList++EB attrs) [32]=tag.data.toList.length:=RJ (fun c f=>by
  have:=(rM (d.2 c f)).1;simpa using this) A
 have C:((tag.data.toList++EB attrs)++62:: v).drop ((tag.data.toList++EB attrs).length+1)=v:=(by rw[<-List.drop_drop,List.drop_left];rfl);have o:=nP ((tag.data.toList++EB attrs)++62:: v) 62;rw[z,List.take_left,C] at o;have p:=nP (tag.data.toList++EB attrs) 32;rw[B,List.take_left] at p;unfold BG;simp only[List.drop_succ_cons,List.drop_zero];rw[o];simp only;rw[p];simp only[List.drop_left];have j:UH (EB attrs)=attrs:=by
  have:=Nc attrs ((EB attrs).length+1) [] n (IA (bT attrs));rw[List.nil_append] at this;exact this
 rw[j];have e:∀l,rG tag.data.toList attrs l= .mk tag txt key attrs l:=fun l=>by rw[rG,PH,hx,x]
 cases hvd:P1.dC tag.data.toList with
 |true=>
  rw[hvd] at b m;have k:kids=[]:=(by simpa using m);rw[if_pos rfl,e,hk0 k,b];simp
 |false=>
  rw[hvd,if_neg FA] at b;rw[if_neg FA,b,hg hvd,e];congr 1;have:=Jh (60:: 47:: (tag.data.toList++[62])) u;simpa using this
theorem Js{s:uA}(h:s.head?≠some 60):Lib.hasPrefix s [60,47]≠true:=by
 intro e;obtain⟨r,rfl⟩:=P2.xO.1 e;simp at h
theorem Bb{f:Nat}{e:uA}{acc:List PT}(he:P9.Ends e):dD f e acc=(acc,e):=by
 cases f with
 |zero=>rw[dD]
 |succ f=>
  rw[dD,if_pos];rcases he with rfl|⟨r,rfl⟩
  ·exact .inl rfl
  ·exact .inr (P2.kQ [60,47] r)
theorem Cb{f:Nat}{p v:uA}{acc:List PT}(hp:p≠[])(hv:v=[]\/∃r,v=60:: r):dD (f+1) (P2.SA p++v) acc=dD f v (acc++[xG p]):=by
 have a:=FV hp;obtain⟨c,r,b⟩:∃c r,P2.SA p=c:: r:=by
  cases h:P2.SA p with
  |nil=>exact absurd h a
  |cons c r=>exact⟨c,r,rfl⟩
 have d:(P2.SA p++v).head?≠some 60:=by
  rw[b];simp only[List.cons_append,List.head?_cons,ne_eq,Option.some.injEq];exact(P2.tL (l:=p) (by rw[b];simp)).1
 have e:Stop (fun c=>!([60]:uA).contains c) v:=by
  rcases hv with rfl|⟨r,rfl⟩
  ·exact .inl rfl
  ·exact .inr ⟨60,r,rfl,by decide⟩
 have g:kD (P2.SA p++v) [60]=(P2.SA p).length:=RJ (fun c b=>by have:=(P2.tL b).1;simpa using this) e;rw[dD,if_neg (by
  rintro(h|h)
  ·rw[b] at h;cases h
  ·exact Js d h),if_neg d]
 simp only[mH,nP,g,List.take_left,List.drop_left,KQ]
theorem Iw:∀(n:Nat) (l:List PT) (f:Nat) (p e:uA) (acc:List PT),cB l<=n->(P2.SA p++(dB l++e)).length<f->gD l=true->mE l=true->P9.Ends e->dD f (P2.SA p++(dB l++e)) acc=(acc++wE l p,e):=by
 intro n;have m:∀(f:Nat) (p e:uA) (acc:List PT),(P2.SA p++(dB []++e)).length<f->P9.Ends e->dD f (P2.SA p++(dB []++e)) acc=(acc++wE [] p,e):=by
  intro f p e acc b k;rw[wE,dB,List.nil_append] at *;by_cases o:p=[]
  ·subst o;rw[show P2.SA []=[] from rfl,List.nil_append,Bb k,MI,if_pos rfl,List.append_nil]
  ·obtain⟨f,rfl⟩:∃g,f=g+1:=⟨f-1,by omega⟩;rw[Cb o (by
    rcases k with rfl|⟨r,rfl⟩
    ·exact .inl rfl
    ·exact .inr ⟨_,rfl⟩),Bb k,MI,if_neg o]
 induction n with
 |zero=>
  intro l f p e acc A b _ _ k;cases l with
  |cons a l=>have:=NJ a;simp[cB] at A;omega
  |nil=>exact m f p e acc b k
 |succ n ih=>
  intro l f p e acc A b G H k;cases l with
  |nil=>exact m f p e acc b k
  |cons a l=>
   rw[gD,Bool.and_eq_true] at G;obtain⟨w,x⟩:=G;rw[mE,Bool.and_eq_true] at H;obtain⟨y,z⟩:=H;have J:=NJ a;have K:dB (a:: l)++e=wC a++(dB l++e):=(by rw[dB,List.append_assoc]);rw[K] at b|-;cases j:a.tag.toList.isEmpty with
   |true=>
    rw[wE,if_pos j];have B:wC a=P2.SA a.txt.data.toList:=by
     obtain⟨tag,txt,key,attrs,kids⟩:=a;exact NO j
    rw[B] at b|-;rw[<-List.append_assoc,<-P2.AX] at b|-;rw[cB] at A;exact ih l f _ e acc dA b x z k
   |false=>
    rw[wE,if_neg (by simp[j])];obtain⟨tag,txt,key,attrs,kids⟩:=a;have j:tag.toList.isEmpty=false:=j;rw[cB,countP] at A;have u:∃r,wC (.mk tag txt key attrs kids)++(dB l++e)=60:: r:=by
     cases d:P1.dC tag.data.toList with
     |true=>rw[aN j d];exact⟨_,rfl⟩
     |false=>rw[IK j d];exact⟨_,rfl⟩
    have q:∀(f:Nat) (acc:List PT),(wC (.mk tag txt key attrs kids)++(dB l++e)).length<f->dD f (wC (.mk tag txt key attrs kids)++(dB l++e)) acc=(acc++FJ (.mk tag txt key attrs kids):: wE l [],e):=by
     intro f acc b;obtain⟨f,rfl⟩:∃g,f=g+1:=⟨f-1,by omega⟩;have I:1<=(wC (.mk tag txt key attrs kids)).length:=by
      cases d:P1.dC tag.data.toList with
      |true=>rw[aN j d,fG,List.length_cons];omega
      |false=>rw[IK j d,fG,List.cons_append,List.length_cons];omega
     have i:=w;rw[iC,if_neg (by simp[j])] at i;simp only[Bool.and_eq_true] at i;have t:=y;rw[gH,Bool.and_eq_true] at t;have C:BG (fun s=>dD f s []) (wC (.mk tag txt key attrs kids)++(dB l++e))=(.mk tag txt key attrs (wE kids []),dB l++e):=by
      refine Qu j w y (fun L=>by rw[L,wE];rfl) fun d=>?_
      rw[IK j d] at b;have:=ih kids f [] (60:: 47:: (tag.data.toList++62:: (dB l++e))) [] dA (by
       simp only[fG,List.length_append,List.length_cons,List.length_nil,show P2.SA []=[] from rfl] at b|-;omega) i.2 t.2 (.inr ⟨_,rfl⟩)
      rw[show P2.SA []=[] from rfl,List.nil_append,List.nil_append] at this;exact this
     have D:¬(wC (.mk tag txt key attrs kids)++(dB l++e)=[]\/Lib.hasPrefix (wC (.mk tag txt key attrs kids)++(dB l++e)) [60,47]=true):=by
      rintro(h|h)
      ·obtain⟨r,E⟩:=u;rw[E] at h;cases h
      ·obtain⟨c,r,M,F⟩:=I6 i.1.1.1.1.1;obtain⟨O,v⟩:=P2.xO.1 h;rw[wC,if_neg (by simp[j]),M] at v;simp only[List.cons_append,List.cons.injEq,List.nil_append] at v;exact F v.2.1
     obtain⟨r,E⟩:=u;rw[dD,if_neg D,if_pos (by rw[E];rfl),C];simp only;have:=ih l f [] e (acc++[.mk tag txt key attrs (wE kids [])]) dA (by
      rw[List.length_append] at b;rw[show P2.SA []=[] from rfl,List.nil_append];omega) x z k
     rw[show P2.SA []=[] from rfl,List.nil_append] at this;rw[this,FJ];simp
    by_cases o:p=[]
    ·subst o;rw[show P2.SA []=[] from rfl,List.nil_append] at b|-;rw[q f acc b,MI,if_pos rfl];rfl
    ·obtain⟨f,rfl⟩:∃g,f=g+1:=⟨f-1,by omega⟩;have N:1<=(P2.SA p).length:=List.length_pos_iff.2 (FV o);rw[Cb o (.inr u),q f _ (by rw[List.length_append] at b;omega),MI,if_neg o];simp
theorem Db{l:List PT}(hm:gD l=true)(hb:mE l=true):ZG (dB l)=(wE l [],[]):=by
 have:=Iw _ l ((dB l).length+1) [] [] [] Zl (by simp[show P2.SA []=[] from rfl]) hm hb (.inl rfl);simpa[ZG,show P2.SA []=[] from rfl] using this
mutual
def mL:PT->Nat
 | .mk _ _ _ _ kids=>TE kids
def TE:List PT->Nat
 |[]=>0
 |a:: l=>max (if a.tag.toList.isEmpty then 0 else 1+mL a) (TE l)
end
theorem Eb(n:Nat):∀l:List PT,cB l<=n->gD l=true->TE l=yH l:=by
 induction n with
 |zero=>
  intro l c _;cases l with
  |cons a l=>have:=NJ a;simp[cB] at c;omega
  |nil=>rw[TE,yH]
 |succ n ih=>
  intro l c d;cases l with
  |nil=>rw[TE,yH]
  |cons a l=>
   rw[cB] at c;have f:=NJ a;rw[gD,Bool.and_eq_true] at d;obtain⟨tag,txt,key,attrs,kids⟩:=a;have b:=d.1;rw[iC] at b;rw[TE,yH,ih l dA d.2,SP,mL];show max (if tag.toList.isEmpty then 0 else 1+TE kids) _=_;cases ht:tag.toList.isEmpty with
   |true=>
    rw[if_pos ht] at b;simp only[Bool.and_eq_true] at b;have e:kids=[]:=(by simpa using b.2);rw[e,yH];simp
   |false=>
    rw[if_neg (by simp[ht])] at b;simp only[Bool.and_eq_true] at b;rw[countP] at c;rw[ih kids dA b.2];simp[Nat.add_comm]
theorem OV:∀l:List PT,(∀k∈l,mL k+1<=wP k)->TE l<=wL l
 |[],_=>by simp[TE]
 |a:: l,h=>by
  have h1:=h a FA;have h2:=OV l (fun k hk=>h k (by simp[hk]));rw[TE,wL];split<;>omega
theorem Fx(t:PT):mL t+1<=wP t:=by
 induction t using PT.ind with
 |h tag txt key attrs kids ih=>
  have:=OV kids ih;rw[mL,wP];omega
theorem lW(l:List PT):TE l<=wL l:=OV l (fun k _=>Fx k)
theorem Ks(s:uA)(hs:s.length<=6000):JD s=if decide (TE (ZG s).1<=200)&&gD (ZG s).1&&decide (dB (ZG s).1=s) then((ZG s).1,0) else([],7):=by
 split
 ·rename_i h;simp only[Bool.and_eq_true,decide_eq_true_eq] at h;obtain⟨⟨b,a⟩,d⟩:=h;have e:mE (ZG s).1=true:=lR _ _ [] rfl;have c:=Db a e;rw[d] at c;refine Gn hs ⟨a,?_,by rw[<-Eb _ _ Zl a];exact b,d⟩;rw[cS,e,Bool.true_and,c];exact NV _ _
 ·rename_i h;refine Br hs fun l g=>h ?_
  obtain⟨b,a,d,f⟩:=g;rw[cS,Bool.and_eq_true] at a;have c:=Db b a.1;rw[f,Hw b a.2] at c;rw[c];simp only[Bool.and_eq_true,decide_eq_true_eq];exact⟨⟨by rw[Eb _ _ Zl b];exact d,b⟩,f⟩
end P10
namespace P22
open Go.RowKit Kd P4 P5 P11 P12 P13 P14
def Zd(w:World)(l:List In)(e:Ending)(w':World):Prop:=∃(A':vA) (n' c':Nat) (ts:List WV),e= .returned (.tuple #[.slice A' n' c',QA (WD l:Nat)])/\yA ts=(if WD l=0 then MB l else[])/\kW.Own w' w.heap.size (.slice A' n' c') ts/\(∀t∈ts,lC kW w' (fun b=>w.heap.size<=b) t)/\fA w w'
def Ox:Prop:=∀(l:List In) (A:vA) (n c:Nat) (w:World),kX.AA w w.heap.size A l->l.length=n->n<=c->c<=maxLen->n<=1000->(∀i∈l,i.a.size<=300/\i.b.size<=300)->jA 168 #[.slice A n c] w (Zd w l)
theorem UN{P:Program}{α:Type}{K:Kind P α}{w:World}{D:Nat}{A:vA}{n c:Nat}{l:List α}(h:K.Own w D (.slice A n c) l):l.length=n/\n<=c/\c<=maxLen/\(A=none->c=0)/\K.AA w w.heap.size A l:=by
 obtain⟨i,j,k,a,b,d,e,f,g⟩:=h.slice;injection a with h1 h2 h3;subst h1;subst h2;subst h3;exact⟨b,d,e,f,g⟩
theorem XV{w:World}{B:Nat}{A:vA}{n c:Nat}{ts:List WV}(ho:kW.Own w B (.slice A n c) ts)(hn:∀t∈ts,lC kW w (fun b=>B<=b) t):Wm kW w A n c ts:=by
 obtain⟨a,d,e,f,g⟩:=UN ho;exact⟨a,d,e,f,g,fun t i=>(hn t i).ok⟩
theorem zp{w w':World}{B:Nat}{A:vA}{n c:Nat}{ts:List WV}{F:Nat->Prop}(ho:kW.Own w B (.slice A n c) ts)(hn:∀t∈ts,lC kW w (fun b=>B<=b) t)(b:iA F w w')(hF:∀k,B<=k->k<w.heap.size->¬F k)(na:vC w F):
 kW.Own w' B (.slice A n c) ts/\∀t∈ts,lC kW w' (fun b=>B<=b) t:=
 ⟨ho.but b (fun i a e=>hF i (ho.lt a).1 (ho.lt a).2 e),fun t f=>(((hn t f).mono (R:=fun b=>B<=b/\b<w.heap.size) (fun _ g j=>⟨j,g⟩)).but b (fun k d=>hF k d.1 d.2) na).mono (fun _ _ h=>h.1)⟩
end P22
namespace P18
open Go.RowKit Kd P4 P5 P11 P12 P13 P14
def xv:Prop:=∀(ts:List WV) (A:vA) (n c:Nat) (w:World),Wm kW w A n c ts->cD (yA ts)<=1000->jA 130 #[.slice A n c] w fun e w'=>e= .returned (aA (xB (yA ts):Nat))/\fA w w'
theorem Gt:xv:=by
 intro d A n c w h a;have f:=Zh (Ek d w A n c h.holds h.len h.ok a);clear h a;go_enter func130,ntmps130;go_wp2_with fail;refine f.mono ?_;rintro e w' ⟨rfl,b⟩;have B:=Zh b;clear b;go_wp2_with fail;go_ret;exact⟨rfl,B⟩
end P18
end Go.Proofs.YtimfajmknmlajaaGreatDoor
