/- A part of the proof. No condition. -/
import Derived.Deep.RegionHeld3
import Derived.Deep.Slices
import Derived.ChangeSame
import Derived.Carry
import Derived.Deep.Cut
import Derived.Lib.ConvBytes
import Derived.Deep.DeepCutAuto
import Derived.Deep.CutBlock
import Derived.Laws.OwnMore
import Derived.Deep.RegionWith
import Derived.Lib.AppendStr
import Derived.Deep.DrawnRows
import Derived.Test.YtngnkmeaaneklaaGreatM1
import Derived.Test.YtngnkmeaaneklaaGreatM2
set_option linter.unusedVariables false
set_option linter.unusedSimpArgs false
set_option maxRecDepth 100000
set_option maxHeartbeats 40000000
namespace Go.Proofs.YtngnkmeaaneklaaGreat
open Tryz
namespace Tl
open Go
section
variable{P:Program}{ops:Array Oper}{Q:Exit->Act->World->Prop}{md:Region.Mode}{L:Nat}{oL:Oper}
def idle(o:Oper):Oper:={o with op:=.assign (.const (.bool true))}
def WQ(P:Program)(ops:Array Oper)(oL:Oper)(Q:Exit->Act->World->Prop):Exit->Act->World->Prop
 | .normal,a,w=>∀K:Act->World->Prop,(∀a w,Q .normal a w->K a w)->if Region.wanted oL (yielded ops a.tmps)=true then Oper.wp P oL a w K Q else K (a.put oL.dst undef) w
 |e,a,w=>Q e a w
theorem lets(h:LetsOut (WQ P ops oL Q)):LetsOut Q:=h
theorem uQ(hL:ops[L]? = some oL)(j:Nat):(ops.setIfInBounds L (idle oL))[j]? = (ops[j]?).map fun o=>if j=L then idle oL else o:=by
 rw[Array.getElem?_setIfInBounds];by_cases e:L=j
 ·subst e;rw[if_pos rfl,hL];simp[(Array.getElem?_eq_some_iff.1 hL).1]
 ·rw[if_neg e];cases ops[j]?<;>simp[Ne.symm e]
theorem We(hL:ops[L]? = some oL)(j:Nat):((ops.setIfInBounds L (idle oL))[j]?).map (·.after)=(ops[j]?).map (·.after):=by
 rw[uQ hL];by_cases e:j=L
 ·subst e;rw[hL];simp[idle]
 ·cases ops[j]?<;>simp[e]
theorem Gk(hL:ops[L]? = some oL)(j:Nat):((ops.setIfInBounds L (idle oL))[j]?).bind (·.dst)=(ops[j]?).bind (·.dst):=by
 rw[uQ hL];by_cases e:j=L
 ·subst e;rw[hL];simp[idle]
 ·cases ops[j]?<;>simp[e]
theorem qd(hL:ops[L]? = some oL)(t:Array Value):yielded (ops.setIfInBounds L (idle oL)) t=yielded ops t:=by
 funext j;unfold yielded;rw[Gk hL]
theorem nX(hL:ops[L]? = some oL)(listed:Array Bool):Region.ready md (ops.setIfInBounds L (idle oL)) listed=Region.ready md ops listed:=by
 unfold Region.ready;rw[Array.size_setIfInBounds];congr 1;funext i;have:=We hL i;have e:∀x:Option Oper,(x.map fun o=>o.after.all fun e=>!Region.binds md e || listed.getD e.on false)=(x.map (·.after)).map fun a=>a.all fun e=>!Region.binds md e || listed.getD e.on false:=fun x=>by cases x<;>rfl
 rw[e,e,this]
def jV(md:Region.Mode)(ops:Array Oper)(L:Nat):Bool:=
 (List.range ops.size).all fun k=>(k==L || (List.range ops.size).any fun j=>decide (k<j)&&((ops[j]?).map fun o=>o.after.any fun e=>Region.binds md e&&e.on==k).getD false)&&((ops[k]?).map fun o=>o.after.all fun e=>!Region.binds md e || decide (e.on<k)).getD false&&decide (k<=L)
structure tR(md:Region.Mode)(ops:Array Oper)(L:Nat):Prop where
 next:∀k,k<ops.size->k≠L->∃j o,k<j/\ops[j]? = some o/\∃e∈o.after,Region.binds md e=true/\e.on=k
 prev:∀(k:Nat) (o:Oper),ops[k]? = some o->∀e∈o.after,Region.binds md e=true->e.on<k
 last:∀k,k<ops.size->k<=L
theorem Xe(h:jV md ops L=true):tR md ops L:=by
 unfold jV at h;rw[List.all_eq_true] at h;refine⟨fun k b f=>?_,fun k o m e g c=>?_,fun k b=>?_⟩
 ·have:=h k (List.mem_range.2 b);simp only[Bool.and_eq_true,Bool.or_eq_true,beq_iff_eq,f,false_or] at this;obtain⟨j,i,d⟩:=List.any_eq_true.1 this.1.1;simp only[Bool.and_eq_true,decide_eq_true_eq] at d;obtain⟨l,a⟩:=d;rw[List.mem_range] at i;rw[Array.getElem?_eq_getElem i] at a;simp only[Option.map_some,Option.getD_some] at a;obtain⟨e,g,c⟩:=Array.any_eq_true'.1 a;simp only[Bool.and_eq_true,beq_iff_eq] at c;exact⟨j,ops[j],l,Array.getElem?_eq_getElem i,e,g,c.1,c.2⟩
 ·have b:=(Array.getElem?_eq_some_iff.1 m).1;have:=h k (List.mem_range.2 b);simp only[Bool.and_eq_true,m,Option.map_some,Option.getD_some] at this;have n:=Array.all_eq_true_iff_forall_mem.1 this.1.2 e g;simpa[c] using n
 ·have:=h k (List.mem_range.2 b);simp only[Bool.and_eq_true,decide_eq_true_eq] at this;exact this.2
def zO(md:Region.Mode)(ops:Array Oper)(listed:Array Bool):Prop:=∀j o,ops[j]? = some o->listed.getD j false=true->∀e∈o.after,Region.binds md e=true->listed.getD e.on false=true
theorem zO.set{listed:Array Bool}(h:zO md ops listed){i:Nat}(hi:i∈Region.ready md ops listed):zO md ops (listed.setIfInBounds i true):=by
 intro j o c d e f g;by_cases b:i=j
 ·subst b;obtain⟨_,l,a,k⟩:=mem_ready.1 hi;rw[c] at a;injection a with a;subst a;exact getD_set_true (k e f g)
 ·rw[getD_set_ne false b] at d;exact getD_set_true (h j o c d e f g)
theorem Ye(hl:tR md ops L){listed:Array Bool}(hc:zO md ops listed)(hr:L∈Region.ready md ops listed):∀n k,n+k=L->k<ops.size->k≠L->listed.getD k false=true:=by
 obtain⟨_,q,i,l⟩:=mem_ready.1 hr;intro n
 induction n using Nat.strongRecOn with
 |ind n ih=>
  intro k r m c;obtain⟨j,o,p,a,e,d,f,rfl⟩:=hl.next k m c;have g:=(Array.getElem?_eq_some_iff.1 a).1;by_cases b:j=L
  ·subst b;rw[i] at a;injection a with a;subst a;exact l e d f
  ·have:=hl.last j g;exact hc j o a (ih (L-j) cA j cA g b) e d f
theorem Hk{listed:Array Bool}{k:Nat}(h:listed.getD k false=true)(d:Bool):listed.getD k d=true:=by
 simp only[Array.getD_eq_getD_getElem?] at h|-;cases e:listed[k]? with
 |none=>rw[e] at h;simp at h
 |some v=>rw[e] at h;simpa using h
theorem ff(hl:tR md ops L){listed:Array Bool}(hs:listed.size=ops.size)(k:Nat):k<ops.size->listed.getD k true=false->Region.ready md ops listed≠[]:=by
 induction k using Nat.strongRecOn with
 |ind k ih=>
  intro c g;by_cases a:∀e∈(ops[k]'c).after,Region.binds md e=true->listed.getD e.on false=true
  ·intro i;have:k∈Region.ready md ops listed:=mem_ready.2 ⟨g,_,Array.getElem?_eq_getElem c,a⟩;rw[i] at this;cases this
  ·simp only[Classical.not_forall] at a;obtain⟨e,j,l,f⟩:=a;have d:=hl.prev k _ (Array.getElem?_eq_getElem c) e j l;refine ih e.on d cA ?_;have b:e.on<listed.size:=cA;simp only[Array.getD_eq_getD_getElem?,Array.getElem?_eq_getElem b,Option.getD_some,Bool.not_eq_true] at f|-;exact f
theorem jf{listed:Array Bool}(h:∀k,k<ops.size->listed.getD k true=true):Region.ready md ops listed=[]:=by
 rw[List.eq_nil_iff_forall_not_mem];intro k b;obtain⟨a,o,c,_⟩:=mem_ready.1 b;rw[h k (Array.getElem?_eq_some_iff.1 c).1] at a;cases a
theorem Ik{o:Oper}{a:Act}{K K':Act->World->Prop}{Q':Exit->Act->World->Prop}(hK:∀a w,K a w->K' a w)(hp:∀c a w,Q' (.panic c) a w->Q (.panic c) a w)(hl:LetsOut Q'->LetsOut Q){r:Result Next}(h:o.upon P a K Q' r):o.upon P a K' Q r:=by
 cases r with
 |ok n w'=>
  cases n with
  |value v=>exact hK _ _ h
  |skip=>exact hK _ _ h
  |defer d=>exact hK _ _ h
  |enter f args=>
   refine Calls.mono (h:Calls P f args w' _) fun e g b=>?_
   cases e with
   |returned v=>exact hK _ _ b
   |panicked c=>exact hp _ _ _ b
   |outgrown=>exact hl b
  |row row args=>exact Rows.mono (h:Rows P row args w' _) fun _ _ b=>hK _ _ b
  |_=>exact(h:False).elim
 |halt x w'=>cases x<;>first|exact hp _ _ _ h|exact(h:False).elim
theorem Jk{a:Act}{w:World}(hd:oL.dst=none){K:Act->World->Prop}{Q':Exit->Act->World->Prop}(h:(idle oL).wp P a w K Q'\/((idle oL).asks P a w/\LetsOut Q')):K a w:=by
 rcases h with h|h
 ·unfold Oper.wp idle at h;simp only[execOp,Act.eval] at h;simpa[Act.put,hd,Oper.upon] using h
 ·exfalso;have b:=h.1.1;unfold idle at b;simp only[execOp,Act.eval] at b;have c:noRoomEvent∈(#[]:Array Event):=b;simp at c
theorem kf(hL:ops[L]? = some oL)(hd:oL.dst=none)(hg:oL.guard=none)(hl:tR md ops L):∀(fuel:Nat) (listed:Array Bool) (a:Act) (w:World),listed.size=ops.size->zO md ops listed->listed.getD L true=false->
 (∀k,k<ops.size->listed.getD k true=false->fuel≠0)->(listed.toList.countP (!·))<=fuel->
 wpAny P md (ops.setIfInBounds L (idle oL)) (WQ P ops oL Q) fuel listed a w->wpAny P md ops Q fuel listed a w:=by
 have p:=(Array.getElem?_eq_some_iff.1 hL).1;intro fuel
 induction fuel with
 |zero=>intro listed a w _ _ t x _ _;exact absurd rfl (x L p t)
 |succ fuel ih=>
  intro listed a w y B t _ C h;obtain⟨I,D⟩:=h;refine⟨fun x=>absurd x (ff hl y L p t),fun i u=>?_⟩;have b:=D i (by rw[nX hL];exact u);have q:(listed.setIfInBounds i true).size=ops.size:=(by rw[Array.size_setIfInBounds];exact y);by_cases l:i=L
  ·subst l;have d:Region.ready md ops (listed.setIfInBounds i true)=[]:=jf fun k v=>by
    by_cases e:i=k
    ·subst e;simp[y,v]
    ·rw[getD_set_ne true e];exact Hk (Ye hl B u (i-k) k (uA (hl.last k v)) v (Ne.symm e)) true
   have m:WQ P ops oL Q .normal a w:=by
    unfold wpOp at b;rw[uQ hL,hL] at b;simp only[Option.map_some,if_true] at b;have g:Region.wanted (idle oL) (yielded (ops.setIfInBounds i (idle oL)) a.tmps)=true:=(by simp[Region.wanted,idle,hg]);rw[if_pos g] at b;have:=Jk hd b;cases fuel with
    |zero=>exact this.2
    |succ fuel=>exact this.1 (by rw[nX hL];exact d)
   have:=m (wpAny P md ops Q fuel (listed.setIfInBounds i true)) fun a w E=>wpAny_done d E fuel
   unfold wpOp;rw[hL];simp only;split
   ·rename_i g;rw[if_pos g] at this;exact .inl this
   ·rename_i g;rw[if_neg g] at this;exact this
  ·have f:=mem_ready.1 u;have z:(listed.setIfInBounds i true).getD L true=false:=(by rw[getD_set_ne true l];exact t);have n:(listed.setIfInBounds i true).toList.countP (!·)<=fuel:=by
    have c:i<listed.size:=by
     obtain⟨_,o,r,_⟩:=f;have:=(Array.getElem?_eq_some_iff.1 r).1;omega
    have F:listed.toList[i]'(by simpa using c)=false:=by
     have:=f.1;simpa[c] using this
    rw[Array.toList_setIfInBounds,List.countP_set (by simpa using c),F];simp only[Bool.not_false,Bool.not_true,if_true,Bool.false_eq_true,if_false];omega
   have s:∀k,k<ops.size->(listed.setIfInBounds i true).getD k true=false->fuel≠0:=by
    rintro k v A rfl;have c:k<(listed.setIfInBounds i true).toList.length:=(by simpa using (by omega:k<listed.size));have:0<(listed.setIfInBounds i true).toList.countP (!·):=by
     rw[List.countP_pos_iff];refine⟨(listed.setIfInBounds i true).toList[k],List.getElem_mem c,?_⟩;have G:k<(listed.setIfInBounds i true).size:=(by simpa using c);have:(listed.setIfInBounds i true)[k]=false:=by
      simpa[Array.getD_eq_getD_getElem?,Array.getElem?_eq_getElem G] using A
     rw[Array.getElem_toList,this];rfl
    omega
   have j:=fun H w'=>ih (listed.setIfInBounds i true) H w' q (B.set u) z s n
   unfold wpOp at b|-;rw[uQ hL] at b;obtain⟨o,r⟩:∃o,ops[i]? = some o:=by obtain⟨_,o,r,_⟩:=f;exact⟨o,r⟩
   rw[r] at b|-;simp only[Option.map_some,if_neg l,qd hL] at b|-;split
   ·rename_i g;rw[if_pos g] at b;rcases b with h|h
    ·exact .inl (Ik j (fun _ _ _ h=>h) lets h)
    ·exact .inr ⟨h.1,lets h.2⟩
   ·rename_i g;rw[if_neg g] at b;exact j _ _ b
theorem GH{S:World->Prop}{id:Nat}{a:Act}{w:World}(hm:P.follows .mixedOrders=true)(L:Nat)(oL:Oper)(hL:ops[L]? = some oL)(hd:oL.dst=none)(hg:oL.guard=none)(hl:jV .any ops L=true)(hS:S w.drew)
 (h:S w.drew->wpAnyH P .any (ops.setIfInBounds L (idle oL)) (WQ P ops oL Q) S ops.size (Array.replicate ops.size false) a w.drew):(Code.region id ops true).wp P Q a w:=by
 have b:=(Array.getElem?_eq_some_iff.1 hL).1;refine wp_region_any hm (kf hL hd hg (Xe hl) _ _ _ _ DA ?_ (by simp[b]) (fun k f _=>by omega) ?_ (wpAny_of_held _ _ _ _ (h hS)))
 ·intro j o d e;have c:=(Array.getElem?_eq_some_iff.1 d).1;simp[c] at e
 ·rw[Array.toList_replicate,List.countP_replicate];simp
end
end Tl
namespace Kd
open Go.RowKit Go.ChangeShapes Go.WideShapes Go.Deep
theorem WS{w:World}{a:Addr}{v:Value}(h:w.cell? a=some v):a.spot=none:=by
 unfold World.cell? at h;split at h
 ·split at h
  ·cases h
  ·rename_i hs;simpa using hs
 ·cases h
theorem Kind.open_{P:Program}{α:Type}(K:Kind P α){H:Type}{enc:TypeId×Value->H}{w:World}{v:Value}{d:DataW H}{p:List MemPlace}{base:Nat}(inh:α)(Wf:α->Prop)
 (hce:P.cellsOf K.e=K.size) (hel:∀fuel cs x,DataW.trod enc P w 0 (fun _=>true) true fuel K.e cs=some x->cs.length=K.size->∃a,cs=K.cs a/\Wf a)
 (hv:Value.okWide P w .any base K.t v) (h:DataW.Trod enc P w 0 (fun _=>true) true K.t v d p):
 ∃A n c l,v= .slice A n c/\l.length=n/\n<=c/\c<=maxLen/\(∀a∈l,Wf a)/\K.pA w w.heap.size A l:=by
 obtain⟨a,len,cap,rfl⟩:=okWide_slice K.ht hv;obtain⟨fuel,O⟩:=h;rcases open_slice K.ht O with⟨hcs,_⟩|⟨ad,len',cap',m,n,D,Pl,hcs,hb,hl,hm,hmm,_,hi⟩
 ·have e:Value.slice a len cap= .slice Option.none 0 0:=(by simpa[Value.cells] using hcs);injection e with e1 e2 e3;subst e1;subst e2;subst e3;exact⟨_,_,_,[],rfl,rfl,by omega,by unfold maxLen;omega,fun _ h=>absurd h DA,Kind.pA.nil _ _ _⟩
 ·have e:Value.slice a len cap= .slice (some ad) len' cap':=(by simpa[Value.cells] using hcs);injection e with e1 e2 e3;subst e1;subst e2;subst e3;have G:m=cap:=(by simpa using hmm);subst G;have y:∀i,i<len->∃x:α,Wf x/\∀j,j<K.size->w.cell? (ad.add (i*K.size+j))=(K.cs x)[j]?:=by
   intro i Q;obtain⟨R,M,S⟩:=hi i cA;rw[hce] at M;obtain⟨_,z,g⟩:=World.cells?_some M;obtain⟨x,rfl,T⟩:=hel _ _ _ S z;refine⟨x,T,fun j F=>?_⟩;have:=g j F;rwa[add_add] at this
  have N:Inhabited α:=⟨inh⟩;obtain⟨f,s⟩:=choose_lt y;refine⟨_,_,_,(List.range len).map f,rfl,by simp,hl,hm,fun x hx=>?_,fun j u F=>?_⟩
  ·obtain⟨i,I,rfl⟩:=List.mem_map.1 hx;exact(s i (List.mem_range.1 I)).1
  ·have J:j<len*K.size:=by
    have:=(List.getElem?_eq_some_iff.1 F).1;rw[Kind.fH] at this;simpa using this
   have k:=K.wF;have L:K.size*(j/K.size)+j % K.size=j:=Nat.div_add_mod j K.size;have r:j % K.size<K.size:=Nat.mod_lt _ k;have q:j/K.size<len:=(by rw[Nat.div_lt_iff_lt_mul k];exact J);have B:j/K.size*K.size+j % K.size=j:=(by rw[Nat.mul_comm];exact L);have U:j/K.size<((List.range len).map f).length:=(by simpa using q);have g:=(s _ q).2 _ r;rw[B] at g;have C:=K.aK _ _ U _ r;rw[B,F] at C;have t:w.cell? (ad.add j)=some u:=(by rw[g,C];simp);have E:ad.spot=Option.none:=by
    have z0:=(s 0 (Nat.lt_of_le_of_lt (Nat.zero_le _) q)).2 0 k;rw[List.getElem?_eq_getElem (by rw[K.len];exact k)] at z0;exact WS (a:=ad) (by simpa[Addr.add] using z0)
   obtain⟨b,o,V⟩:=ad;simp only at E;subst E;rw[add_plain] at t;exact⟨b,o,rfl,block_lt_of_cell t,t⟩
theorem Vt{H:Type}{enc:TypeId×Value->H}{P:Program}{f:Func}{s:ChangeSpec}{W W':World}{args:Array Value}{v:Value}{ds gs:List (DataW H)}{before:List MemPlace}
 (hW:DataW.Whole enc P f.params.toList s.vars false W args.toList ds gs before)
 (hres:DataW.TrodAll enc P W' W.heap.size (fun _=>false) false f.resultTypes.toList (v.resultList f.resultTypes.size) (s.fn H (ds++gs)).results [])
 (hargs:DataW.TrodAll enc P W' 0 (fun b=>decide (b<W.heap.size)) true f.params.toList args.toList (s.fn H (ds++gs)).args before)
 (hvars:DataW.TrodVars enc P W' (fun b=>decide (b<W.heap.size)) s.vars (s.fn H (ds++gs)).vars [])
 (hb:eA W W'):s.post enc P f false true false false W args v W':=
 ⟨ds,gs,before,[],before,[],hW,hres,hargs,hvars,World.keptBut_mono (fun _ a=>⟨a,.inr (.inl a)⟩) (hb.frame (·∈before)),fun h=>by cases h⟩
end Kd
namespace P11
open Go.RowKit Kd P4
structure In where
 op:Int
 a:wA
 b:wA
def gB(i:In):Bool:=
 if i.op=1 then P1.NC i.a.data.toList && !P1.fC i.a.data.toList&&P1.YB i.b.data.toList
 else if i.op=3 then P1.fC i.a.data.toList&&P1.YB i.b.data.toList
 else if i.op=4 then P1.YB i.a.data.toList&&i.b.toList.isEmpty
 else if i.op=5\/i.op=6 then P1.NC i.a.data.toList&&P1.YB i.b.data.toList
 else if i.op=2\/i.op=7\/i.op=8 then i.a.toList.isEmpty&&i.b.toList.isEmpty
 else false
theorem sr:(prog.info? 110).map (fun i=>(i.zero,i.size,i.bytes))=some (some (.agg #[aA 0,tA,tA]),3,40):=by kernel_rfl
def In.cells(i:In):List Value:=[aA i.op,bA i.a,bA i.b]
def kX:Kind prog In where
 t:=75
 e:=110
 size:=3
 bytes:=40
 z:=.agg #[aA 0,tA,tA]
 cs:=In.cells
 ht:=underlying75
 info:=VG sr
 QG:=rfl
 wF:=by decide
 RG:=by decide
 len:=fun _=>rfl
 one:=fun a u hu=>by simp[In.cells] at hu;rcases hu with rfl|rfl|rfl<;>rfl
theorem TG{w:World}{B:Nat}{A:jA}{l:List In}(h:kX.pA w B A l){k:Nat}(hk:k<l.length):
 ∃b o,A=some (dA b o)/\b<B/\w.cell? ⟨b,o+k*3,none⟩=some (aA l[k].op)/\w.cell? ⟨b,o+k*3+1,none⟩=some (bA l[k].a)/\w.cell? ⟨b,o+k*3+2,none⟩=some (bA l[k].b):=by
 obtain⟨b,o,rfl,d,c⟩:=h.at hk;exact⟨b,o,rfl,d,c 0 _ rfl,c 1 _ rfl,c 2 _ rfl⟩
def XB(w:World)(s:Nat)(i:In):Prop:=w.heap[s]? = some (.cells #[aA i.op,bA i.a,bA i.b] 110 (0,0))
section
variable{w w':World}{s C:Nat}{i:In}
theorem XB.new(w:World)(i:In):XB (w.alloc (.cells #[aA i.op,bA i.a,bA i.b] 110)) w.heap.size i:=heap_alloc_new w _
theorem XB.lt(h:XB w s i):s<w.heap.size:=FA h
theorem XB.below(h:XB w s i)(hb:Below C w w')(hC:s<C):XB w' s i:=(hb.block s hC).trans h
theorem XB.c0(h:XB w s i):w.cell? (dA s 0)=some (aA i.op):=cell_of_row w s 0 _ _ (0,0) h
theorem XB.c1(h:XB w s i):w.cell? (dA s 1)=some (bA i.a):=cell_of_row w s 1 _ _ (0,0) h
theorem XB.c2(h:XB w s i):w.cell? (dA s 2)=some (bA i.b):=cell_of_row w s 2 _ _ (0,0) h
theorem XB.fr(h:XB w s i)(k:Nat):w.frozen? (dA s k)=false:=by simp[World.frozen?,(show w.heap[s]? = _ from h)]
end
theorem int_eq{a b:Int}(h:a=b):(a==b)=true:=by simp[h]
theorem int_ne{a b:Int}(h:¬a=b):(a==b)=false:=by simpa using h
theorem OX(i:In)(w:World)(ha:i.a.size<=maxLen)(hb:i.b.size<=maxLen):fA 94 #[.agg #[aA i.op,bA i.a,bA i.b]] w fun e w'=>e= .returned (.bool (gB i))/\eA w w':=by
 obtain⟨d,a,b⟩:=i;have ha:a.size<=maxLen:=ha;have hb:b.size<=maxLen:=hb;have j:Hid (eA w (w.alloc (.cells #[aA d,bA a,bA b] 110))):=Zh (Zb _ _);have u:Hid (XB (w.alloc (.cells #[aA d,bA a,bA b] 110)) w.heap.size ⟨d,a,b⟩):=Zh (XB.new w ⟨d,a,b⟩);obtain⟨o,p⟩:=qA (P1.NC a.data.toList);obtain⟨t,q⟩:=qA (P1.fC a.data.toList);obtain⟨v,r⟩:=qA (P1.YB a.data.toList);obtain⟨g,s⟩:=qA (P1.YB b.data.toList);have f:Hid (gB ⟨d,a,b⟩=if d=1 then o && !t&&g else if d=3 then t&&g else if d=4 then v&&b.toList.isEmpty else if d=5\/d=6 then o&&g else if d=2\/d=7\/d=8 then a.toList.isEmpty&&b.toList.isEmpty else false):=Zh (by unfold gB;simp only[p,q,r,s]);have k:=Zh p;have l:=Zh q;have m:=Zh r;have n:=Zh s;clear p q r s;show fA 94 #[.agg #[aA d,bA a,bA b]] w _;go_enter func94,ntmps94;go_upto_region 1 with fail;generalize w.alloc (.cells #[aA d,bA a,bA b] 110)=W at j u|-;have G:=u.c0;have H:=u.c1;have I:=u.c2;simp only at G H I;go_wp2_with fail;refine zA (P3.uM a _ k ha) ?_;go_wp2_with fail;refine zA (P1.gI a _) ?_;rw[l.out];go_wp2_with fail;refine zA (P3.pJ a _ m ha) ?_;go_wp2_with fail;refine zA (P3.pJ b _ n hb) ?_;by_cases y:d=1
 ·subst y;have c:Hid (gB ⟨1,a,b⟩=(o && !t&&g)):=Zh (by rw[f.out,if_pos rfl]);clear f k l m n;cases o<;>cases t<;>cases g<;>(go_wp2_with fail;go_ret;exact⟨by rw[c.out];rfl,j⟩)
 by_cases z:d=3
 ·subst z;have c:Hid (gB ⟨3,a,b⟩=(t&&g)):=Zh (by rw[f.out,if_neg nA,if_pos rfl]);clear f k l m n;cases t<;>cases g<;>(go_wp2_with fail;go_ret;exact⟨by rw[c.out];rfl,j⟩)
 by_cases A:d=4
 ·subst A;have c:Hid (gB ⟨4,a,b⟩=(v&&b.toList.isEmpty)):=Zh (by rw[f.out,if_neg nA,if_neg nA,if_pos rfl]);clear f k l m n;cases bE:b.toList.isEmpty<;>rw[bE] at c<;>cases v<;>(go_wp2_with fail;go_ret;exact⟨by rw[c.out];rfl,j⟩)
 by_cases B:d=5
 ·subst B;have c:Hid (gB ⟨5,a,b⟩=(o&&g)):=Zh (by rw[f.out,if_neg nA,if_neg nA,if_neg nA,if_pos nA]);clear f k l m n;cases o<;>cases g<;>(go_wp2_with fail;go_ret;exact⟨by rw[c.out];rfl,j⟩)
 by_cases C:d=6
 ·subst C;have c:Hid (gB ⟨6,a,b⟩=(o&&g)):=Zh (by rw[f.out,if_neg nA,if_neg nA,if_neg nA,if_pos nA]);clear f k l m n;cases o<;>cases g<;>(go_wp2_with fail;go_ret;exact⟨by rw[c.out];rfl,j⟩)
 by_cases D:d=2
 ·subst D;have c:Hid (gB ⟨2,a,b⟩=(a.toList.isEmpty&&b.toList.isEmpty)):=Zh (by rw[f.out,if_neg nA,if_neg nA,if_neg nA,if_neg nA,if_pos nA]);clear f k l m n;cases aE:a.toList.isEmpty<;>cases bE:b.toList.isEmpty<;>rw[aE,bE] at c<;>(go_wp2_with fail;go_ret;exact⟨by rw[c.out];rfl,j⟩)
 by_cases E:d=7
 ·subst E;have c:Hid (gB ⟨7,a,b⟩=(a.toList.isEmpty&&b.toList.isEmpty)):=Zh (by rw[f.out,if_neg nA,if_neg nA,if_neg nA,if_neg nA,if_pos nA]);clear f k l m n;cases aE:a.toList.isEmpty<;>cases bE:b.toList.isEmpty<;>rw[aE,bE] at c<;>(go_wp2_with fail;go_ret;exact⟨by rw[c.out];rfl,j⟩)
 by_cases F:d=8
 ·subst F;have c:Hid (gB ⟨8,a,b⟩=(a.toList.isEmpty&&b.toList.isEmpty)):=Zh (by rw[f.out,if_neg nA,if_neg nA,if_neg nA,if_neg nA,if_pos nA]);clear f k l m n;cases aE:a.toList.isEmpty<;>cases bE:b.toList.isEmpty<;>rw[aE,bE] at c<;>(go_wp2_with fail;go_ret;exact⟨by rw[c.out];rfl,j⟩)
 have c:Hid (gB ⟨d,a,b⟩=false):=Zh (by rw[f.out];simp[y,D,z,A,B,C,E,F]);have J:=int_ne y;have K:=int_ne D;have L:=int_ne z;have M:=int_ne A;have N:=int_ne B;have O:=int_ne C;have P:=int_ne E;have Q:=int_ne F;clear f k l m n;go_wp2_with fail;go_ret;exact⟨by rw[c.out];rfl,j⟩
end P11
namespace P12
open Go.RowKit Kd P4 P11
def bs(l:KA):wA:=⟨l.toArray⟩
theorem Fm(l:KA):(bs l).data.toList=l:=by simp[bs]
theorem Vp(b:wA):bs b.data.toList=b:=by
 apply ByteArray.ext;simp[bs]
theorem jH(l:KA):(bs l).size=l.length:=by show l.toArray.size=_;simp
theorem JQ{b:wA}(h:b.toList.isEmpty=true):b=bs []:=by
 rw[ByteArray.toList_eq,List.isEmpty_iff] at h;rw[<-h,Vp]
def oE(op:Int):Nat:=if op=1\/op=3\/op=5\/op=6 then 2 else if op=4 then 1 else 0
def dR(s:wA):KA:=UInt8.ofNat s.size:: s.data.toList
def byteOf(op:Int):UInt8:=UInt8.ofNat op.toNat
def yL(i:In):KA:=byteOf i.op:: ((if 0<oE i.op then dR i.a else[])++(if 1<oE i.op then dR i.b else[]))
def bF:KA->Option (KA×KA)
 |[]=>none
 |k:: r=>if r.length<k.toNat then none else some (r.take k.toNat,r.drop k.toNat)
def sD(c:UInt8)(r:KA):Option (In×KA):=
 if oE c.toNat=0 then some (⟨c.toNat,bs [],bs []⟩,r)
 else match bF r with
  |none=>none
  |some (t,r1)=>
   if oE c.toNat=1 then some (⟨c.toNat,bs t,bs []⟩,r1)
   else match bF r1 with
    |none=>none
    |some (u,r2)=>some (⟨c.toNat,bs t,bs u⟩,r2)
def YF:KA->Option (In×KA)
 |[]=>none
 |c:: r=>match sD c r with
  |none=>none
  |some (i,r1)=>if gB i then some (i,r1) else none
def xF:Nat->KA->List In->List In×Nat
 |0,_,acc=>(acc,0)
 |f+1,b,acc=>
  if b=[] then(acc,0)
  else match YF b with
   |none=>([],7)
   |some (i,r)=>if acc.length=120 then([],13) else xF f r (acc++[i])
def SA(b:KA):List In×Nat:=xF (b.length+1) b []
theorem XS{l:KA}(h:P1.NC l=true):l.length<=60:=by
 cases l with
 |nil=>simp
 |cons c r=>
  simp only[P1.NC,Bool.and_eq_true,decide_eq_true_eq] at h;simp;omega
theorem zN{l:KA}(h:P1.YB l=true):l.length<=60:=by
 simp only[P1.YB,Bool.and_eq_true,decide_eq_true_eq] at h;omega
theorem ng{l:KA}(h:P1.fC l=true):l.length<=60:=by
 simp only[P1.fC,Bool.or_eq_true,beq_iff_eq] at h;rcases h with((rfl|rfl)|rfl)|rfl<;>decide
theorem oZ(b:wA):b.data.toList.length=b.size:=by simp
theorem DN{i:In}(h:gB i=true):i.a.size<=60/\i.b.size<=60/\1<=i.op/\i.op<=8/\(oE i.op=0->i.a=bs []/\i.b=bs [])/\(oE i.op=1->i.b=bs []):=by
 obtain⟨d,a,b⟩:=i;unfold gB at h;simp only at h|-;have m:=oZ a;have n:=oZ b;have c:∀{x:wA},x.toList.isEmpty=true->x.size<=60:=fun {x} hx=>by rw[JQ hx,jH];simp
 by_cases j:d=1
 ·subst j;rw[if_pos rfl] at h;simp only[Bool.and_eq_true] at h;have:=XS h.1.1;have:=zN h.2;refine⟨by omega,by omega,by omega,by omega,fun e=>by simp[oE] at e,fun e=>by simp[oE] at e⟩
 rw[if_neg j] at h;by_cases k:d=3
 ·subst k;rw[if_pos rfl] at h;simp only[Bool.and_eq_true] at h;have:=ng h.1;have:=zN h.2;refine⟨by omega,by omega,by omega,by omega,fun e=>by simp[oE] at e,fun e=>by simp[oE] at e⟩
 rw[if_neg k] at h;by_cases l:d=4
 ·subst l;rw[if_pos rfl] at h;simp only[Bool.and_eq_true] at h;have:=zN h.1;have:=c h.2;refine⟨by omega,by omega,by omega,by omega,fun e=>by simp[oE] at e,fun _=>JQ h.2⟩
 rw[if_neg l] at h;by_cases f:d=5\/d=6
 ·rw[if_pos f] at h;simp only[Bool.and_eq_true] at h;have:=XS h.1;have:=zN h.2;refine⟨by omega,by omega,by omega,by omega,fun e=>?_,fun e=>?_⟩
  ·rcases f with rfl|rfl<;>simp[oE] at e
  ·rcases f with rfl|rfl<;>simp[oE] at e
 rw[if_neg f] at h;by_cases g:d=2\/d=7\/d=8
 ·rw[if_pos g] at h;simp only[Bool.and_eq_true] at h;have:=c h.1;have:=c h.2;refine⟨by omega,by omega,by omega,by omega,fun _=>⟨JQ h.1,JQ h.2⟩,fun e=>?_⟩;rcases g with rfl|rfl|rfl<;>simp[oE] at e
 rw[if_neg g] at h;cases h
theorem sN(op:Int):oE op=0\/oE op=1\/oE op=2:=by
 unfold oE;split
 ·exact .inr (.inr rfl)
 ·split
  ·exact .inr (.inl rfl)
  ·exact .inl rfl
theorem pZ(i:In):1<=(yL i).length:=by simp[yL]
theorem qJ{b t r:KA}(h:bF b=some (t,r)):b=dR (bs t)++r/\t.length<=255:=by
 cases b with
 |nil=>cases h
 |cons k s=>
  rw[bF] at h;split at h
  ·cases h
  ·injection h with h;injection h with e1 e2;have c:=k.toNat_lt;have a:t.length=k.toNat:=(by rw[<-e1,List.length_take];omega);refine⟨?_,by omega⟩;rw[dR,Fm,jH,a,List.cons_append,<-e1,<-e2,List.take_append_drop];simp
theorem qZ{b:KA}{i:In}{r:KA}(h:YF b=some (i,r)):b=yL i++r/\gB i=true:=by
 cases b with
 |nil=>cases h
 |cons c s=>
  rw[YF] at h;have a:∀n:Nat,n=c.toNat->byteOf (n:Int)=c:=fun n g=>by subst g;unfold byteOf;simp
  cases hc:sD c s with
  |none=>rw[hc] at h;cases h
  |some p=>
   obtain⟨j,m⟩:=p;rw[hc] at h;simp only at h;split at h
   ·rename_i hm;injection h with h;injection h with e1 e2;subst e1;subst e2;refine⟨?_,hm⟩;unfold sD at hc;split at hc
    ·rename_i e;injection hc with hc;injection hc with e1 e2;subst e2;rw[<-e1,yL];simp only;rw[e,if_neg nA,if_neg nA,a _ rfl];rfl
    ·rename_i e0;cases h1:bF s with
     |none=>rw[h1] at hc;cases hc
     |some q=>
      obtain⟨t,k⟩:=q;rw[h1] at hc;simp only at hc;obtain⟨f,_⟩:=qJ h1;split at hc
      ·rename_i e;injection hc with hc;injection hc with e1 e2;subst e2;rw[<-e1,yL];simp only;rw[e,if_pos nA,if_neg nA,a _ rfl,List.append_nil,List.cons_append,<-f]
      ·rename_i e1';have d:oE (c.toNat:Int)=2:=by
        rcases sN (c.toNat:Int) with e|e|e
        ·exact absurd e e0
        ·exact absurd e e1'
        ·exact e
       cases h2:bF k with
       |none=>rw[h2] at hc;cases hc
       |some q2=>
        obtain⟨u,o⟩:=q2;rw[h2] at hc;simp only at hc;obtain⟨l,_⟩:=qJ h2;injection hc with hc;injection hc with e1 e2;subst e2;rw[<-e1,yL];simp only;rw[d,if_pos nA,if_pos nA,a _ rfl,List.cons_append,List.append_assoc,<-l,<-f]
   ·cases h
theorem PX:∀(f:Nat) (b:KA) (acc:List In),(xF f b acc).2=0\/xF f b acc=([],7)\/xF f b acc=([],13)
 |0,_,_=> .inl rfl
 |f+1,b,acc=>by
  rw[xF];split
  ·exact .inl rfl
  ·cases YF b with
   |none=>exact .inr (.inl rfl)
   |some p=>
    simp only;split
    ·exact .inr (.inr rfl)
    ·exact PX f _ _
theorem ur:(prog.info? 5).map (fun i=>(i.zero,i.size,i.bytes))=some (some (.int .u8 0),1,1):=by kernel_rfl
def kB:Kind prog UInt8 where
 t:=23
 e:=5
 size:=1
 bytes:=1
 z:=.int .u8 0
 cs:=fun c=>[.int .u8 (c.toNat:Int)]
 ht:=underlying23
 info:=VG ur
 QG:=rfl
 wF:=by decide
 RG:=by decide
 len:=fun _=>rfl
 one:=fun a u hu=>by simp at hu;subst hu;rfl
theorem Bb(l:KA)(j:Nat):(kB.cells l)[j]? = (l[j]?).map (fun c=>Value.int .u8 (c.toNat:Int)):=by
 induction l generalizing j with
 |nil=>simp[Kind.cells]
 |cons a l ih=>
  show((.int .u8 (a.toNat:Int)):: kB.cells l)[j]? = _;cases j with
  |zero=>rfl
  |succ j=>simpa using ih j
theorem og(op:Int)(w:World):fA 93 #[aA op] w fun e w'=>e= .returned (aA (oE op:Nat))/\w=w':=by
 by_cases b:op=1
 ·subst b;go_enter func93,ntmps93;go_wp2_with fail;go_ret;exact⟨rfl,rfl⟩
 by_cases c:op=3
 ·subst c;go_enter func93,ntmps93;go_wp2_with fail;go_ret;exact⟨rfl,rfl⟩
 by_cases d:op=5
 ·subst d;go_enter func93,ntmps93;go_wp2_with fail;go_ret;exact⟨rfl,rfl⟩
 by_cases f:op=6
 ·subst f;go_enter func93,ntmps93;go_wp2_with fail;go_ret;exact⟨rfl,rfl⟩
 by_cases a:op=4
 ·subst a;go_enter func93,ntmps93;go_wp2_with fail;go_ret;exact⟨rfl,rfl⟩
 have g:Hid (oE op=0):=Zh (by unfold oE;rw[if_neg cA,if_neg a]);have i:=int_ne b;have j:=int_ne c;have k:=int_ne a;have l:=int_ne d;have m:=int_ne f;go_enter func93,ntmps93;go_wp2_with fail;go_ret;exact⟨by rw[g.out];rfl,rfl⟩
def XH:Nat->Nat->In->KA->Option (In×KA)
 |0,_,i,r=>some (i,r)
 |k+1,m,i,r=>match bF r with
  |none=>none
  |some (t,r1)=>XH k (m+1) (if m=0 then⟨i.op,bs t,i.b⟩ else⟨i.op,i.a,bs t⟩) r1
theorem Ah(c:UInt8)(r:KA):sD c r=XH (oE c.toNat) 0 ⟨c.toNat,bs [],bs []⟩ r:=by
 unfold sD;rcases sN (c.toNat:Int) with e|e|e
 ·rw[e,if_pos rfl,XH]
 ·rw[e,if_neg nA,XH];cases bF r with
  |none=>rfl
  |some p=>rfl
 ·rw[e,if_neg nA,XH];cases bF r with
  |none=>rfl
  |some p=>
   obtain⟨t,a⟩:=p;simp only;rw[if_neg nA,XH];cases bF a with
   |none=>rfl
   |some p2=>rfl
theorem Bh(op:Int):oE op<=2:=by rcases sN op with e|e|e<;>omega
def zX:In:=⟨0,⟨#[]⟩,⟨#[]⟩⟩
def Ws(w:World)(n:Nat)(p:Option (In×KA))(e:Ending)(w':World):Prop:=
 (p=none/\e= .returned (.tuple #[.agg #[aA 0,tA,tA],aA 0])\/∃i r,p=some (i,r)/\e= .returned (.tuple #[.agg #[aA i.op,bA i.a,bA i.b],aA ((n:Int)-(r.length:Nat))]))/\eA w w'
theorem KG{w wr:World}{v0 v1 v2:Value}(hb:eA w wr):eA w (((wr.setCell ⟨w.heap.size,0,none⟩ v0).setCell ⟨w.heap.size,1,none⟩ v1).setCell ⟨w.heap.size,2,none⟩ v2):=
 ((hb.setCell (p:=⟨w.heap.size,0,none⟩) Zl _).setCell (p:=⟨w.heap.size,1,none⟩) Zl _).setCell (p:=⟨w.heap.size,2,none⟩) Zl _
def mN(w:World)(g:Nat)(c:UInt8)(r:KA)(l:KA)(n:Nat)(s5 s6:Value)(wr:World):Prop:=∃(m at':Nat) (i:In),m<=oE c.toNat/\s6 = aA m/\s5 = aA at'/\at'<=n/\i.op=c.toNat/\i.a.size<=255/\i.b.size<=255/\
 Hid (sD c r=XH (oE c.toNat-m) m i (l.drop at'))/\Hid (XB wr g i)/\Hid (XB wr w.heap.size zX)/\Hid (eA w wr)
theorem oO{w:World}{b o n cap:Nat}{l t:KA}{C:Nat}(h:kB.pA w C (some (dA b o)) l)(p:Nat)(ht:t.length=n)(hl:(l.drop p).take n=t):(convert 23 9 (.slice (some ⟨b,o+p,none⟩) n cap)).run prog w= .ok (bA (bs t)) w:=by
 subst ht;refine(run_convert_bytes_back (P:=prog) w _ _ 5 ⟨b,o+p,none⟩ cap t underlying23 underlying5 underlying9 (fun j c=>?_)).trans rfl;have e:l[p+j]? = some t[j]:=by
  have d:((l.drop p).take t.length)[j]? = t[j]?:=(by rw[hl]);rw[List.getElem?_take,if_pos c,List.getElem?_drop] at d;rw[d,List.getElem?_eq_getElem c]
 obtain⟨g,i,a,_,f⟩:=h (p+j) _ (by rw[Bb,e];rfl);injection a with a;injection a with e1 e2;subst e1;subst e2;rw[show(⟨b,o+p,none⟩:Addr).add j=⟨b,o+(p+j),none⟩ by
  unfold Addr.add;split
  ·rename_i e;subst e;rfl
  ·rw[Nat.add_assoc]]
 exact f
theorem qM{w:World}{C:Nat}{A:jA}{l:KA}(h:kB.pA w C A l){k:Nat}(hk:k<l.length):∃b o,A=some (dA b o)/\b<C/\w.cell? ⟨b,o+k,none⟩=some (.int .u8 (l[k].toNat:Int)):=by
 obtain⟨b,o,a,c,d⟩:=h k _ (by rw[Bb,List.getElem?_eq_getElem hk];rfl);exact⟨b,o,a,c,d⟩
theorem Ya{l:KA}{p:Nat}(h:p<l.length):bF (l.drop p)=if l.length<p+1+l[p].toNat then none else some ((l.drop (p+1)).take l[p].toNat,l.drop (p+1+l[p].toNat)):=by
 rw[List.drop_eq_getElem_cons h,bF,List.length_drop,List.drop_drop];by_cases a:l.length<p+1+l[p].toNat
 ·rw[if_pos cA,if_pos a]
 ·rw[if_neg cA,if_neg a]
theorem Ko(l:KA)(A:jA)(n c:Nat)(w:World)(hh:kB.pA w w.heap.size A l)(hn:l.length=n)(h0:0<n)(zC:n<=c)(hl:n<=100000)(cC:c<=maxLen):fA 57 #[.slice A n c] w (Ws w n (YF l)):=by
 have KH:=Zh hh;have KL:=Zh hn;have a0:0<l.length:=cA;obtain⟨b,o,rfl,hb,R⟩:=qM hh a0;obtain⟨x,r,U⟩:∃x r,l=x:: r:=by
  cases l with
  |nil=>simp at a0
  |cons x r=>exact⟨x,r,rfl⟩
 have hx:l[0]=x:=(by subst U;rfl);rw[hx] at R;have E:=Zh U;have B0:Hid (eA w (w.alloc (.cells #[aA 0,tA,tA] 110))):=Zh (Zb _ _);have Z0:Hid (XB (w.alloc (.cells #[aA 0,tA,tA] 110)) w.heap.size zX):=Zh (XB.new w zX);have a5:IntKind.i64.wrap (x.toNat:Int)=(x.toNat:Int):=by
  have:=x.toNat_lt;simp[IntKind.wrap,IntKind.bits,IntKind.signed];omega
 have a8:c<=9223372036854775807:=(by unfold maxLen at cC;omega);clear hh hn U hx cC;go_enter func57,ntmps57;go_upto_region 1 with fail;have R:=(B0.cell (p:=⟨b,o+0,none⟩) hb).trans R;simp only[Nat.add_zero] at R;generalize w.alloc (.cells #[aA 0,tA,tA] 110)=W at B0 Z0 R|-;have i0:(0:Int)<(n:Int):=cA;go_upto_region 2 with fail;have X1:Hid (XB (W.alloc (.cells #[aA (x.toNat:Int),tA,tA] 110)) W.heap.size ⟨x.toNat,bs [],bs []⟩):=Zh (XB.new W ⟨x.toNat,bs [],bs []⟩);have BA:Hid (eA W (W.alloc (.cells #[aA (x.toNat:Int),tA,tA] 110))):=Zh (Zb _ _);generalize W.alloc (.cells #[aA (x.toNat:Int),tA,tA] 110)=W2 at X1 BA|-;have Z1:=Zh (Z0.below BA Z0.lt);have B1:=Zh (B0.trans (BA.mono B0.size));have hg:w.heap.size<W.heap.size:=Z0.lt;generalize W.heap.size=g at X1 hg|-;clear R Z0 B0 BA a5;have ST:Hid (mN w g x r l n (aA 1) (aA 0) W2):=Zh ⟨0,1,⟨x.toNat,bs [],bs []⟩,by omega,rfl,rfl,by omega,rfl,by rw[jH];simp,by rw[jH];simp,Zh (by rw[Ah,E.out];rfl),X1,Z1,B1⟩;clear X1 Z1 B1;go_wp2_with fail;go_loopw [5,6] (fun s5 s6 wr=>mN w g x r l n s5 s6 wr) (fun _ s6 _=>3-(intOf s6).toNat)
 case atStart=>exact ST
 case round=>
  obtain⟨m,d,i,hm,rfl,rfl,a9,k,N,O,HC,s,j,u⟩:=hrel;clear ST;have a6:=Bh (x.toNat:Int);have c0:=s.c0;rw[k] at c0;obtain⟨T,hT⟩:=qA (oE (x.toNat:Int));rw[hT] at hm a6 HC;have P:=Zh hT;clear hT;go_wp2_with fail;refine zA (og (x.toNat:Int) wr) ?_;rw[P.out];by_cases aa:m<T
  ·by_cases ab:d<n
   ·
     have a1:d<l.length:=(uA KL.out);have CA:=Zh (Ya a1);obtain⟨b1,o1,e1,ac,R⟩:=qM (KH.on u) a1;injection e1 with e1;injection e1 with e1 e2;subst e1;subst e2;have hk:=l[d].toNat_lt;have i1:(0:Int)<=(d:Int):=cA;have i2:(d:Int)<(n:Int):=cA;obtain⟨y,hy⟩:=qA (l[d].toNat);rw[hy] at R hk CA;clear hy;have ad:IntKind.i64.wrap (y:Int)=(y:Int):=by
      simp[IntKind.wrap,IntKind.bits,IntKind.signed];omega
     by_cases S:n<d+1+y
     ·have f:Hid (sD x r=none):=Zh (by
       obtain⟨q,hq⟩:∃q,T-m=q+1:=⟨T-m-1,by omega⟩;rw[HC.out,hq,XH,CA.out,if_pos (by rw[KL.out];exact S)])
      have V:Hid (YF l=none):=Zh (by rw[E.out,YF,f.out]);have z0:=j.c0;have F:=j.c1;have G:=j.c2;simp only[zX] at z0 F G;have zf:=j.fr;have B:w.heap.size<wr.heap.size:=j.lt;go_wp2_with fail;refine bodyPost_ret (v:=.tuple #[.agg #[aA 0,tA,tA],aA 0]) (by simp[results,results57,go_sem,z0,F,G,B]) rfl ⟨.inl ⟨V,rfl⟩,KG u⟩
     ·have D:((l.drop (d+1)).take y).length=y:=(by rw[List.length_take,List.length_drop,KL.out];omega);obtain⟨t,ht⟩:=qA ((l.drop (d+1)).take y);have a7:=Zh ht;rw[ht] at D;have f:Hid (sD x r=XH (T-(m+1)) (m+1) (if m=0 then⟨i.op,bs t,i.b⟩ else⟨i.op,i.a,bs t⟩) (l.drop (d+1+y))):=Zh (by
       obtain⟨q,hq⟩:∃q,T-m=q+1:=⟨T-m-1,by omega⟩;rw[HC.out,hq,XH,CA.out,if_neg (by rw[KL.out];exact S),ht,show T-(m+1)=q by omega])
      clear ht CA HC;have kc:=oO (cap:=c-(d+1)) (KH.on u) (d+1) D a7;have j1:(d:Int)+1<=(d:Int)+1+(y:Int):=cA;have j2:(d:Int)+1+(y:Int)<=(n:Int):=cA;have c1:=s.c1;have c2:=s.c2;have xf:=s.fr;obtain⟨Q,a,M⟩:=i;simp only at k N O c1 c2 f;by_cases X:m=0
      ·subst X;by_cases H:c=d+1
       ·subst H;have I:y=0:=cA;have Y:=oO (cap:=0) (KH.on u) 0 D (t:=t) (by rw[I,List.take_zero];exact(List.eq_nil_of_length_eq_zero cA).symm);simp only[Nat.add_zero] at Y;clear I;have J:Hid (XB (wr.setCell (dA g 1) (bA (bs t))) g ⟨Q,bs t,M⟩):=Zh (heap_set s 1 _);have K:Hid (XB (wr.setCell (dA g 1) (bA (bs t))) w.heap.size zX):=Zh ((Below.heap_setCell wr _ _ _ (by show w.heap.size≠g;omega)).trans j);have L:Hid (eA w (wr.setCell (dA g 1) (bA (bs t)))):=Zh (u.setCell (p:=(dA g 1)) (by show w.heap.size<=g;omega) _);have C:Hid (mN w g x r l n (aA ((d:Int)+1+(y:Int))) (aA ((0:Nat)+1:Nat)) (wr.setCell (dA g 1) (bA (bs t)))):=Zh ⟨0+1,d+1+y,⟨Q,bs t,M⟩,by rw[P.out];omega,rfl,by simp,by omega,k,by rw[jH];omega,O,Zh (by rw[f.out,P.out];rfl),J,K,L⟩;clear J K L f;go_wp2_with fail;go_roundw
        case rel=>exact C
        case measure=>simp[intOf]
       ·have J:Hid (XB (wr.setCell (dA g 1) (bA (bs t))) g ⟨Q,bs t,M⟩):=Zh (heap_set s 1 _);have K:Hid (XB (wr.setCell (dA g 1) (bA (bs t))) w.heap.size zX):=Zh ((Below.heap_setCell wr _ _ _ (by show w.heap.size≠g;omega)).trans j);have L:Hid (eA w (wr.setCell (dA g 1) (bA (bs t)))):=Zh (u.setCell (p:=(dA g 1)) (by show w.heap.size<=g;omega) _);have C:Hid (mN w g x r l n (aA ((d:Int)+1+(y:Int))) (aA ((0:Nat)+1:Nat)) (wr.setCell (dA g 1) (bA (bs t)))):=Zh ⟨0+1,d+1+y,⟨Q,bs t,M⟩,by rw[P.out];omega,rfl,by simp,by omega,k,by rw[jH];omega,O,Zh (by rw[f.out,P.out];rfl),J,K,L⟩;clear J K L f;go_wp2_with fail;go_roundw
        case rel=>exact C
        case measure=>simp[intOf]
      ·have qm:((m:Int)==0)=false:=AA;by_cases H:c=d+1
       ·subst H;have I:y=0:=cA;have Y:=oO (cap:=0) (KH.on u) 0 D (t:=t) (by rw[I,List.take_zero];exact(List.eq_nil_of_length_eq_zero cA).symm);simp only[Nat.add_zero] at Y;clear I;have J:Hid (XB (wr.setCell (dA g 2) (bA (bs t))) g ⟨Q,a,bs t⟩):=Zh (heap_set s 2 _);have K:Hid (XB (wr.setCell (dA g 2) (bA (bs t))) w.heap.size zX):=Zh ((Below.heap_setCell wr _ _ _ (by show w.heap.size≠g;omega)).trans j);have L:Hid (eA w (wr.setCell (dA g 2) (bA (bs t)))):=Zh (u.setCell (p:=(dA g 2)) (by show w.heap.size<=g;omega) _);have C:Hid (mN w g x r l n (aA ((d:Int)+1+(y:Int))) (aA ((m:Nat)+1:Nat)) (wr.setCell (dA g 2) (bA (bs t)))):=Zh ⟨m+1,d+1+y,⟨Q,a,bs t⟩,by rw[P.out];omega,rfl,by simp,by omega,k,N,by rw[jH];omega,Zh (by rw[f.out,P.out];rw[if_neg X]),J,K,L⟩;clear J K L f;go_wp2_with fail;go_roundw
        case rel=>exact C
        case measure=>simp[intOf];omega
       ·have J:Hid (XB (wr.setCell (dA g 2) (bA (bs t))) g ⟨Q,a,bs t⟩):=Zh (heap_set s 2 _);have K:Hid (XB (wr.setCell (dA g 2) (bA (bs t))) w.heap.size zX):=Zh ((Below.heap_setCell wr _ _ _ (by show w.heap.size≠g;omega)).trans j);have L:Hid (eA w (wr.setCell (dA g 2) (bA (bs t)))):=Zh (u.setCell (p:=(dA g 2)) (by show w.heap.size<=g;omega) _);have C:Hid (mN w g x r l n (aA ((d:Int)+1+(y:Int))) (aA ((m:Nat)+1:Nat)) (wr.setCell (dA g 2) (bA (bs t)))):=Zh ⟨m+1,d+1+y,⟨Q,a,bs t⟩,by rw[P.out];omega,rfl,by simp,by omega,k,N,by rw[jH];omega,Zh (by rw[f.out,P.out];rw[if_neg X]),J,K,L⟩;clear J K L f;go_wp2_with fail;go_roundw
        case rel=>exact C
        case measure=>simp[intOf];omega
   ·
     obtain rfl:d=n:=cA
     have f:Hid (sD x r=none):=Zh (by
      obtain⟨q,hq⟩:∃q,T-m=q+1:=⟨T-m-1,by omega⟩;rw[HC.out,hq,XH,List.drop_of_length_le (by rw[KL.out];exact Zl)];rfl)
     have V:Hid (YF l=none):=Zh (by rw[E.out,YF,f.out]);have z0:=j.c0;have F:=j.c1;have G:=j.c2;simp only[zX] at z0 F G;have zf:=j.fr;have B:w.heap.size<wr.heap.size:=j.lt;go_wp2_with fail;refine bodyPost_ret (v:=.tuple #[.agg #[aA 0,tA,tA],aA 0]) (by simp[results,results57,go_sem,z0,F,G,B]) rfl ⟨.inl ⟨V,rfl⟩,KG u⟩
  ·obtain rfl:m=T:=cA
   have f:Hid (sD x r=some (i,l.drop d)):=Zh (by rw[HC.out,Nat.sub_self,XH]);have c1:=s.c1;have c2:=s.c2;obtain⟨Q,a,M⟩:=i;simp only at k N O c1 c2;have a2:a.size<=maxLen:=wD;have a3:M.size<=maxLen:=wD;go_wp2_with fail;refine(OX ⟨(x.toNat:Int),a,M⟩ wr a2 a3).mono ?_;rintro e w2 ⟨rfl,b2⟩;subst k;obtain⟨bm,Z⟩:=qA (gB ⟨(x.toNat:Int),a,M⟩);rw[Z];have a4:=Zh Z;have j:=Zh (j.below b2 j.lt);have s:=Zh (s.below b2 s.lt);have u:=Zh (u.trans (b2.mono u.size));clear b2 Z c0 c1 c2;cases bm with
   |false=>
    have V:Hid (YF l=none):=Zh (by rw[E.out,YF,f.out];simp only;rw[if_neg (by rw[a4.out];decide)]);have z0:=j.c0;have F:=j.c1;have G:=j.c2;simp only[zX] at z0 F G;have zf:=j.fr;have B:w.heap.size<w2.heap.size:=j.lt;go_wp2_with fail;refine bodyPost_ret (v:=.tuple #[.agg #[aA 0,tA,tA],aA 0]) (by simp[results,results57,go_sem,z0,F,G,B]) rfl ⟨.inl ⟨V,rfl⟩,KG u⟩
   |true=>
    have c0:=s.c0;have c1:=s.c1;have c2:=s.c2;simp only at c0 c1 c2;have V:Hid (YF l=some (⟨(x.toNat:Int),a,M⟩,l.drop d)):=Zh (by rw[E.out] at f|-;rw[YF,f.out];simp only;rw[if_pos a4.out]);have z0:=j.c0;have F:=j.c1;have G:=j.c2;simp only[zX] at z0 F G;have zf:=j.fr;have B:w.heap.size<w2.heap.size:=j.lt;have ae:g≠w.heap.size:=cA;have HL:Hid (((l.drop d).length:Int)=(n:Int)-(d:Int)):=Zh (by rw[List.length_drop,KL.out];omega);go_wp2_with fail;refine bodyPost_ret (v:=.tuple #[.agg #[aA (x.toNat:Int),bA a,bA M],aA (d:Int)]) (by simp[results,results57,go_sem,z0,F,G,B]) rfl ⟨.inr ⟨_,_,V,?_⟩,KG u⟩;rw[HL.out,show(n:Int)-((n:Int)-(d:Int))=(d:Int) by omega]
def Xv(w:World)(p:List In×Nat)(e:Ending)(w':World):Prop:=∃(A:jA) (n c:Nat) (l:List In),e= .returned (.tuple #[.slice A n c,aA (p.2:Nat)])/\l=p.1/\kX.Own w' w.heap.size (.slice A n c) l/\eA w w'
theorem E9{w w':World}{p:List In×Nat}{k:Nat}(h:p=([],k))(hb:eA w w'):Xv w p (.returned (.tuple #[vA,aA (k:Nat)])) w':=by
 subst h;exact⟨none,0,0,[],rfl,rfl,Kind.Own.nil kX w' _,hb⟩
def ML(w:World)(b0:KA)(s0 s4:Value)(wr:World):Prop:=∃(A:jA) (n c:Nat) (x:KA) (A':jA) (n' c':Nat) (acc:List In) (f:Nat),s0= .slice A n c/\s4= .slice A' n' c'/\x.length=n/\n<=c/\c<=maxLen/\n<=100000/\n<f/\acc.length<=120/\
 Hid (SA b0=xF f x acc)/\Hid (kB.pA w w.heap.size A x)/\Hid (kX.Own wr w.heap.size (.slice A' n' c') acc)/\Hid (eA w wr)
theorem Y0{w:World}{B:Nat}{A:jA}{n c:Nat}{l:List In}(h:kX.Own w B (.slice A n c) l):l.length=n:=by
 obtain⟨d,e,f,a,b,g,i,j,k⟩:=h.slice;injection a with h1 h2 h3;rw[b,<-h2]
theorem Sk(b0:KA)(A:jA)(n c:Nat)(w:World)(hh:kB.pA w w.heap.size A b0)(hn:b0.length=n)(zC:n<=c)(cC:c<=maxLen)(hl:n<=100000):fA 27 #[.slice A n c] w (Xv w (SA b0)):=by
 have ST:Hid (ML w b0 (.slice A n c) (vA) w):=Zh ⟨A,n,c,b0,none,0,0,[],b0.length+1,rfl,rfl,hn,zC,cC,hl,by omega,by simp,Zh rfl,Zh hh,Zh (Kind.Own.nil kX w _),Zh Ze⟩;clear hh hn zC cC hl;go_enter func27,ntmps27;go_wp2_with fail;go_loopw [0,4] (fun s0 s4 wr=>ML w b0 s0 s4 wr) (fun s0 _ _=>match s0 with| .slice _ n _=>n|_=>0)
 case atStart=>exact ST
 case round=>
  obtain⟨A,n,c,x,A',U,c',b,f,rfl,rfl,g,zC,cC,a0,hf,a6,V,W,HO,D⟩:=hrel;clear ST;have a5:c<=9223372036854775807:=(by unfold maxLen at cC;omega);by_cases h0:0<n
  ·obtain⟨H,rfl⟩:∃q,f=q+1:=⟨f-1,by omega⟩;have j:x≠[]:=fun e=>by rw[e] at g;simp at g;omega
   have a7:=Y0 HO;have L:=Zh (Ko x A n c wr ((W.below D Zl).more D.size) g h0 zC a0 cC);cases ho:YF x with
   |none=>
    rw[ho] at L;have y:Hid (SA b0=([],7)):=Zh (by rw[V.out,xF,if_neg j,ho]);go_wp2_with fail;refine L.mono ?_;rintro e z ⟨o,I⟩;rcases o with⟨_,rfl⟩|⟨i,r,o,_⟩
    ·have J:=Zh (D.trans (I.mono D.size));clear I;go_wp2_with fail;go_ret2;exact E9 y (J.alloc J.size _)
    ·cases o
   |some p=>
    obtain⟨i,r⟩:=p;rw[ho] at L;obtain⟨E,M⟩:=qZ ho;have F:=pZ i;have s:=congrArg List.length E;rw[List.length_append,g] at s;obtain⟨k,N⟩:=qA ((yL i).length);rw[N] at F s;have O:r=x.drop k:=(by rw[E,<-N,List.drop_left]);have a1:=Zh O;have HI:=Zh M;have P:((n:Int)-(r.length:Nat))=(k:Int):=cA;have GN:Hid (xF (H+1) x b=if b.length=120 then([],13) else xF H r (b++[i])):=Zh (by rw[xF,if_neg j,ho]);have Q:Hid (r.length+k=n):=Zh cA;have a8:1<=k:=F;have a9:k<=n:=cA;clear ho E M F s N O j;go_wp2_with fail;refine L.mono ?_;rintro e z ⟨o,I⟩;rcases o with⟨o,_⟩|⟨i',r',o,rfl⟩
    ·cases o
    injection o with o;injection o with e1 e2;subst e1;subst e2;rw[P];clear P;have J:=Zh (D.trans (I.mono D.size));have O2:=Zh (HO.below I Zl);have qk:((k:Int)==0)=false:=AA;clear I L;go_upto_region 4 with fail;have R:=Zh (XB.new z i);have X:Hid (eA z (z.alloc (.cells #[aA i.op,bA i.a,bA i.b] 110))):=Zh (Zb _ _);generalize z.alloc (.cells #[aA i.op,bA i.a,bA i.b] 110)=w3 at R X|-;have O3:=Zh (O2.below X Zl);have Y:=Zh (J.trans (X.mono J.size));have S:=Y.size;have g0:=R.c0;have g1:=R.c1;have g2:=R.c2;clear R X O2 J;by_cases C:b.length=120
    ·have y:Hid (SA b0=([],13)):=Zh (by rw[V.out,GN.out,if_pos C]);have q1:((U:Int)==120)=true:=AA;go_wp2_with fail;go_ret2;exact E9 y Y
    ·have y:Hid (SA b0=xF H r (b++[i])):=Zh (by rw[V.out,GN.out,if_neg C]);have q1:((U:Int)==120)=false:=AA;have i1:(k:Int)<=(n:Int):=cA;go_upto_region 9 with(at_builtin;refine kX.iC rfl _ _ rfl (v:=.slice A' U c') (l:=b) (m:=[i]) (B:=w.heap.size) rfl (O3.alloc _) rfl rfl RB (Kind.pA.lit (heap_alloc_new _ _) rfl) AA AA ?_;intro v' w4 d u a2;obtain⟨Z,n4,c4,rfl,e1,e2,e3,e4,e5⟩:=d.slice;have B4:Hid (eA w w4):=Zh ((Y.alloc S _).grown u AA (fun k N=>(O3.lt N).1));have O4:=Zh d;clear d u a2 e1 e2 e3 e4 e5);clear g0 g1 g2 O3 Y S;cases A with
     |none=>
      exfalso;have hz:x=[]:=by
       cases hx:x with
       |nil=>rfl
       |cons a t=>
        obtain⟨_,_,K,_⟩:=qM W (k:=0) (by rw[hx];simp);cases K
      rw[hz] at g;simp at g;omega
     |some ad=>
      obtain⟨ab,ao,sp⟩:=ad;obtain rfl:sp=none:=by
       obtain⟨_,_,K,_⟩:=qM W (k:=0) cA;injection K with K;injection K with _ _ K
      have HD:Hid (kB.pA w w.heap.size (some ⟨ab,ao+k,none⟩) r):=Zh (by
       rw[a1.out];have:=W.drop k;simpa[kB] using this)
      by_cases T:c=k
      ·subst T;have a3:n=c:=cA;have G:Hid (ML w b0 (.slice (some (dA ab ao)) 0 0) (.slice Z n4 c4) w4):=Zh ⟨_,0,0,[],Z,n4,c4,b++[i],H,rfl,rfl,rfl,by omega,by simp[maxLen],by omega,by omega,by simp;omega,Zh (by
        rw[y.out];have h1:=Q.out;have:r=[]:=List.eq_nil_of_length_eq_zero cA;rw[this]),Zh (Kind.pA.nil _ _ _),O4,B4⟩
       subst a3;go_wp2_with fail;go_roundw
       case rel=>exact G
       case measure=>simp;omega
      ·have a4:n-k<n:=cA;have G:Hid (ML w b0 (.slice (some ⟨ab,ao+k,none⟩) (n-k) (c-k)) (.slice Z n4 c4) w4):=Zh ⟨_,n-k,c-k,r,Z,n4,c4,b++[i],H,rfl,rfl,by have:=Q.out;omega,by omega,by omega,by omega,by omega,by simp;omega,y,HD,O4,B4⟩;go_wp2_with fail;go_roundw
       case rel=>exact G
       case measure=>exact a4
  ·obtain⟨H,rfl⟩:∃q,f=q+1:=⟨f-1,by omega⟩;have y:Hid (SA b0=(b,0)):=Zh (by rw[V.out,xF,if_pos (List.eq_nil_of_length_eq_zero cA)]);go_wp2_with fail;go_ret2;exact⟨A',U,c',b,by rw[y.out];rfl,by rw[y.out],HO,D⟩
end P12
namespace P13
open Go.RowKit Kd P4 P11 P12
def JB(op:Int):Bool:=decide (op=5\/op=6)
def gD(op:Int):Bool:=decide (op=1\/op=3)
def nH(k:Nat)(o:List Int)(x:In):List Int:=if x.op=1 then o++[(k:Int)+1] else if x.op=2 then o.dropLast else o
def uB(l:List In):Nat->List Int
 |0=>[]
 |k+1=>match l[k]? with
  |some x=>nH k (uB l k) x
  |none=>uB l k
def zE(l:List In)(k:Nat):Int×Nat:=match (uB l k).getLast? with
 |none=>(0,0)
 |some p=>(p,(uB l k).length)
def ID(op:Int):Int:=if op=1 then 1 else if op=2 then -1 else 0
def XE(s:List In×Int)(x:In):List In×Int:=(if s.2=0/\x.op≠2 then s.1++[x] else s.1,s.2+ID x.op)
def RH(l:List In)(k:Nat):List In:=(((l.take k).drop (zE l k).1.toNat).foldl XE ([],0)).1
def YE(l:List In)(a:KA):Nat->Nat->Nat
 |0,_=>9
 |k+1,n=>match l[k]? with
  |none=>9
  |some y=>if JB y.op then(if y.a.toList=a then 9 else YE l a k (n+1)) else if 8<=n then 9 else if gD y.op then 0 else 9
def cH(x y:In):Bool:=gD y.op&&(y.b.toList==x.b.toList)
def ZK(l:List In)(k:Nat)(x:In):Nat:=
 if gB x=false then 7
 else if JB x.op then YE l x.a.toList k 0
 else if x.op=2 then(if(zE l k).2=0 then 8 else 0)
 else if(RH l k).any (fun y=>decide (y.op=7)) then 11
 else if gD x.op && !x.b.toList.isEmpty&&(RH l k).any (cH x) then 10
 else if x.op=1/\8<=(zE l k).2 then 12
 else 0
def VD(l:List In)(k:Nat):Nat:=match l[k]? with
 |none=>0
 |some x=>ZK l k x
def aD(l:List In):Nat->Nat
 |0=>0
 |k+1=>if aD l k=0 then VD l k else aD l k
def bD(l:List In):Nat:=
 if 120<l.length then 13
 else if aD l l.length=0 then(if 0<(zE l l.length).2 then 8 else 0)
 else aD l l.length
theorem eM{l:List In}{k:Nat}(h:k<l.length):uB l (k+1)=nH k (uB l k) l[k]:=by
 rw[uB,List.getElem?_eq_getElem h]
theorem lP(l:List In):∀k,(uB l k).length<=k
 |0=>by simp[uB]
 |k+1=>by
  have:=lP l k;rw[uB];split
  ·unfold nH;split
   ·simp;omega
   ·split
    ·simp;omega
    ·omega
  ·omega
theorem eT(l:List In):∀k,∀p∈uB l k,1<=p/\p<=(k:Int)
 |0=>by simp[uB]
 |k+1=>by
  have ih:=eT l k;intro p hp;rw[uB] at hp;have key:∀q∈uB l k,1<=q/\q<=((k+1:Nat):Int):=fun q hq=>by have:=ih q hq;omega
  split at hp
  ·unfold nH at hp;split at hp
   ·rcases List.mem_append.1 hp with h|h
    ·exact key p h
    ·rw[List.mem_singleton] at h;omega
   ·split at hp
    ·exact key p (List.dropLast_subset _ hp)
    ·exact key p hp
  ·exact key p hp
theorem cP{l:List In}{k:Nat}(h:(uB l k).length=0):zE l k=(0,0):=by
 rw[zE,List.eq_nil_of_length_eq_zero h];rfl
theorem dP{l:List In}{k m:Nat}(hm:m<(uB l k).length)(h:(uB l k).length=m+1):zE l k=((uB l k)[m],m+1):=by
 have a:(uB l k)[(uB l k).length-1]? = some ((uB l k)[m]):=by
  rw[show(uB l k).length-1=m by omega];exact List.getElem?_eq_getElem hm
 rw[zE,List.getLast?_eq_getElem?,a];simp only[h]
theorem iM(l:List In)(k:Nat):(zE l k).2=(uB l k).length:=by
 rcases Nat.eq_zero_or_pos (uB l k).length with h|h
 ·rw[cP h,h]
 ·obtain⟨m,a⟩:∃m,(uB l k).length=m+1:=⟨(uB l k).length-1,by omega⟩;rw[dP cA a];simp only[a]
theorem SW(l:List In)(k:Nat):∃f:Nat,(zE l k).1=f/\f<=k:=by
 rcases Nat.eq_zero_or_pos (uB l k).length with h|h
 ·rw[cP h];exact⟨0,rfl,by omega⟩
 ·obtain⟨m,a⟩:∃m,(uB l k).length=m+1:=⟨(uB l k).length-1,by omega⟩;rw[dP cA a];have:=eT l k _ (List.getElem_mem (h:=(by omega:m<(uB l k).length)));refine⟨((uB l k)[m]'cA).toNat,?_,?_⟩
  ·simp only;omega
  ·omega
def iD(l:List In)(f j:Nat):List In×Int:=((l.drop f).take j).foldl XE ([],0)
theorem qW(l:List In)(f:Nat):iD l f 0=([],0):=by simp[iD]
theorem rW{l:List In}{f j:Nat}(h:f+j<l.length):iD l f (j+1)=XE (iD l f j) l[f+j]:=by
 unfold iD;rw[List.take_add_one,List.getElem?_drop,List.getElem?_eq_getElem h,List.foldl_append];rfl
theorem TW{l:List In}{k f:Nat}(h:(zE l k).1=(f:Int)):(iD l f (k-f)).1=RH l k:=by
 rw[RH,h,Int.toNat_natCast,List.drop_take];rfl
theorem Kg(s:List In×Int)(x:In):(XE s x).1.length<=s.1.length+1:=by
 unfold XE;simp only;split
 ·simp
 ·omega
theorem tS(l:List In)(f:Nat):∀j,(iD l f j).1.length<=j/\-(j:Int)<=(iD l f j).2/\(iD l f j).2<=j
 |0=>by simp[iD]
 |j+1=>by
  obtain⟨h1,h2,h3⟩:=tS l f j;rcases Nat.lt_or_ge (f+j) l.length with h|h
  ·rw[rW h];have:=Kg (iD l f j) l[f+j];refine⟨by omega,?_,?_⟩<;>(simp only[XE,ID];split<;>try split)<;>omega
  ·have e:iD l f (j+1)=iD l f j:=by
    unfold iD;rw[List.take_of_length_le AA,List.take_of_length_le AA]
   rw[e];omega
theorem UW(l:List In)(a:KA):∀k n,YE l a k n<=13
 |0,_=>by simp[YE]
 |k+1,n=>by
  rw[YE];split
  ·omega
  ·split
   ·split
    ·omega
    ·exact UW l a k (n+1)
   ·split
    ·omega
    ·split<;>omega
theorem Hd(l:List In)(k:Nat):VD l k<=13:=by
 unfold VD;split
 ·omega
 ·unfold ZK;have:=UW l
  repeat' split
  all_goals first|omega|exact this _ _ _
theorem sW(l:List In):∀k,aD l k<=13
 |0=>by simp[aD]
 |k+1=>by
  rw[aD];split
  ·exact Hd l k
  ·exact sW l k
theorem Jd(l:List In):bD l<=13:=by
 unfold bD;have:=sW l l.length
 repeat' split
 all_goals omega
theorem UR{l:List In}{k:Nat}(h:aD l k≠0):∀j,aD l (k+j)=aD l k
 |0=>rfl
 |j+1=>by
  rw[<-Nat.add_assoc,aD,if_neg (by rw[UR h j];exact h),UR h j]
theorem iY{l:List In}{k:Nat}(h:aD l k=0)(hw:VD l k≠0)(hk:k<l.length):aD l l.length=VD l k:=by
 have a:aD l (k+1)=VD l k:=(by rw[aD,if_pos h]);have b:=UR (l:=l) (k:=k+1) (by rw[a];exact hw) (l.length-(k+1));rw[show k+1+(l.length-(k+1))=l.length by omega] at b;rw[b,a]
def tI(s:Option (List (KA)))(x:In):Option (List (KA)):=
 if gD x.op then some [] else if JB x.op then s.map (· ++ [x.a.toList]) else none
def yG(l:List In):Nat->Option (List (KA))
 |0=>none
 |k+1=>match l[k]? with
  |some x=>tI (yG l k) x
  |none=>yG l k
def uI(s:Option (List (KA)))(a:KA)(n:Nat):Nat:=match s with
 |none=>9
 |some ns=>if a∈ns\/8<=n+ns.length then 9 else 0
theorem XV{op:Int}(h:gD op=true):JB op=false:=by
 simp only[gD,JB,decide_eq_true_eq,decide_eq_false_iff_not] at h|-;omega
theorem eS{s:Option (List (KA))}{x:In}(h:gD x.op=true):tI s x=some []:=by rw[tI,if_pos h]
theorem fS{s:Option (List (KA))}{x:In}(h:JB x.op=true):tI s x=s.map (· ++ [x.a.toList]):=by
 rw[tI,if_neg (fun e=>by rw[XV e] at h;cases h),if_pos h]
theorem gS{s:Option (List (KA))}{x:In}(h:gD x.op=false)(h':JB x.op=false):tI s x=none:=by
 rw[tI,if_neg (by rw[h];decide),if_neg (by rw[h'];decide)]
theorem jM(ns:List (KA))(a:KA)(n:Nat):uI (some ns) a n=if a∈ns\/8<=n+ns.length then 9 else 0:=rfl
theorem mP(a:KA)(n:Nat):uI none a n=9:=rfl
theorem jS(l:List In)(a:KA):∀(k n:Nat),k<=l.length->YE l a k n=uI (yG l k) a n
 |0,n,_=>rfl
 |k+1,n,h=>by
  have hk:k<l.length:=cA;have ih:=jS l a k;rw[YE,yG,List.getElem?_eq_getElem hk];simp only;generalize l[k]=x;by_cases hm:gD x.op=true
  ·rw[XV hm,eS hm,jM,if_neg nA,hm];by_cases h8:8<=n
   ·rw[if_pos h8,if_pos (.inr (by simpa using h8))]
   ·rw[if_neg h8,if_pos rfl,if_neg (by simpa using h8)]
  ·by_cases ht:JB x.op=true
   ·rw[if_pos ht,ih (n+1) cA,fS ht];cases yG l k with
    |none=>
     rw[Option.map_none,mP,mP];split<;>rfl
    |some ns=>
     rw[Option.map_some,jM,jM];simp only[List.mem_append,List.mem_singleton,List.length_append,List.length_singleton];by_cases ha:x.a.toList=a
     ·rw[if_pos ha,if_pos (.inl (.inr ha.symm))]
     ·have e:¬a=x.a.toList:=fun e=>ha e.symm
      rw[if_neg ha];by_cases hn:a∈ns
      ·rw[if_pos (.inl hn),if_pos (.inl (.inl hn))]
      ·by_cases h8:8<=n+1+ns.length
       ·rw[if_pos (.inr h8),if_pos (.inr cA)]
       ·rw[if_neg (fun o=>o.elim hn h8),if_neg (fun o=>o.elim (fun o=>o.elim hn e) (fun h=>h8 cA))]
   ·have ht:JB x.op=false:=(by simpa using ht);have hm:gD x.op=false:=(by simpa using hm);rw[gS hm ht,mP,ht,hm];by_cases h8:8<=n<;>simp[h8]
def xH(s:List (List In))(x:In):List (List In):=
 if x.op=1 then s.dropLast++[(s.getLast?.getD [])++[x],[]] else if x.op=2 then s.dropLast else s.dropLast++[(s.getLast?.getD [])++[x]]
def mE(l:List In):Nat->List (List In)
 |0=>[[]]
 |k+1=>match l[k]? with
  |some x=>xH (mE l k) x
  |none=>mE l k
theorem fW{l:List In}{k:Nat}(h:k<l.length):mE l (k+1)=xH (mE l k) l[k]:=by
 rw[mE,List.getElem?_eq_getElem h]
theorem fP{l:List In}{k:Nat}(h:k<l.length):yG l (k+1)=tI (yG l k) l[k]:=by
 rw[yG,List.getElem?_eq_getElem h]
def ZF(l:List In)(k t:Nat):Int:=if t=0 then 0 else(uB l k).getD (t-1) 0
theorem En(l:List In)(k t:Nat):0<=ZF l k t/\ZF l k t<=k:=by
 unfold ZF;split
 ·omega
 ·rw[List.getD_eq_getElem?_getD];cases h:(uB l k)[t-1]? with
  |none=>simp
  |some p=>
   obtain⟨a,b⟩:=List.getElem?_eq_some_iff.1 h;have:=eT l k p (b▸List.getElem_mem a);simp only[Option.getD_some];omega
def vI(l:List In)(k:Nat)(p:Int):List In×Int:=((l.take k).drop p.toNat).foldl XE ([],0)
theorem Me{l:List In}{k:Nat}(h:k<l.length){p:Int}(hp:p<=k):vI l (k+1) p=XE (vI l k p) l[k]:=by
 unfold vI;rw[List.take_add_one,List.getElem?_eq_getElem h,Option.toList_some,List.drop_append_of_le_length (by rw[List.length_take];omega),List.foldl_append];rfl
structure WO(l:List In)(k:Nat):Prop where
 len:(mE l k).length=(uB l k).length+1
 at_:∀t (h:t<(mE l k).length),vI l k (ZF l k t)=((mE l k)[t],((uB l k).length:Int)-t)
theorem Nj(l:List In):WO l 0:=⟨rfl,fun t h=>by
 simp only[mE,List.length_singleton] at h;obtain rfl:t=0:=cA
 simp[vI,mE,uB]⟩
theorem kS{s:List (List In)}{d:Nat}(hd:d<s.length)(h:s.length=d+1):s.getLast?.getD []=s[d]:=by
 have e:s[s.length-1]? = some s[d]:=by
  rw[show s.length-1=d by omega];exact List.getElem?_eq_getElem hd
 rw[List.getLast?_eq_getElem?,e];rfl
theorem Oj{l:List In}{k:Nat}(hk:k<l.length)(h:WO l k)(hc:l[k].op=2->0<(uB l k).length):WO l (k+1):=by
 have w:=fW hk;have y:=eM hk;have u:∀t,vI l (k+1) (ZF l k t)=XE (vI l k (ZF l k t)) l[k]:=fun t=>Me hk (En l k t).2
 obtain⟨d,q⟩:=qA ((uB l k).length);have z:=h.len;have i:=h.at_;rw[q] at z i hc;have j:=kS (s:=mE l k) (d:=d) cA z;generalize l[k]=x at w y u hc;have a:(mE l k).dropLast.length=d:=(by rw[List.length_dropLast,z];omega);have p:∀t (c:t<(mE l k).dropLast.length),(mE l k).dropLast[t]=(mE l k)[t]'(by rw[List.length_dropLast] at c;omega):=fun t c=>List.getElem_dropLast c
 by_cases c:x.op=1
 ·have b:mE l (k+1)=(mE l k).dropLast++[(mE l k)[d]'cA++[x],[]]:=(by rw[w,xH,if_pos c,j]);have g:uB l (k+1)=uB l k++[(k:Int)+1]:=(by rw[y,nH,if_pos c]);have r:ID x.op=1:=(by rw[ID,if_pos c]);have f:∀t,t<=d->ZF l (k+1) t=ZF l k t:=fun t o=>by
   unfold ZF;split
   ·rfl
   ·rw[g,List.getD_eq_getElem?_getD,List.getD_eq_getElem?_getD,List.getElem?_append_left cA]
  refine⟨by rw[b,g];simp[a,q],fun t o=>?_⟩;have v:t<d+2:=(by rw[b] at o;simpa[a] using o);have m:((uB l (k+1)).length:Int)=d+1:=(by rw[g];simp[q]);rw[m];by_cases A:t<d
  ·rw[f t cA,u,i t cA,XE,r];simp only;rw[if_neg cA];congr 1
   ·rw[List.getElem_of_eq b,List.getElem_append_left cA,p]
   ·omega
  ·by_cases B:t=d
   ·subst B;rw[f t cA,u,i t cA,XE,r];simp only;rw[if_pos ⟨by omega,by omega⟩];congr 1
    ·rw[List.getElem_of_eq b,List.getElem_append_right cA];simp[a]
    ·omega
   ·obtain rfl:t=d+1:=cA
    have e:ZF l (k+1) (d+1)=(k:Int)+1:=by
     unfold ZF;rw[if_neg cA,g,List.getD_eq_getElem?_getD,Nat.add_sub_cancel,List.getElem?_append_right cA];simp[q]
    rw[e];have C:vI l (k+1) ((k:Int)+1)=([],0):=by
     unfold vI;rw[List.drop_of_length_le (by rw[List.length_take];omega)];rfl
    rw[C];congr 1
    ·rw[List.getElem_of_eq b,List.getElem_append_right cA];simp[a]
    ·omega
 ·by_cases n:x.op=2
  ·have D:=hc n;have b:mE l (k+1)=(mE l k).dropLast:=(by rw[w,xH,if_neg c,if_pos n]);have g:uB l (k+1)=(uB l k).dropLast:=(by rw[y,nH,if_neg c,if_pos n]);have r:ID x.op = -1:=(by rw[ID,if_neg c,if_pos n]);refine⟨by rw[b,g,a,List.length_dropLast];omega,fun t o=>?_⟩;have v:t<d:=(by rw[b] at o;omega);have m:((uB l (k+1)).length:Int)=d-1:=(by rw[g,List.length_dropLast];omega);have f:ZF l (k+1) t=ZF l k t:=by
    unfold ZF;split
    ·rfl
    ·rw[g,List.getD_eq_getElem?_getD,List.getD_eq_getElem?_getD,List.dropLast_eq_take,List.getElem?_take,if_pos cA]
   rw[m,f,u,i t cA,XE,r];simp only;rw[if_neg (by rintro⟨_,e⟩;exact e n)];congr 1
   ·rw[List.getElem_of_eq b,p]
   ·omega
  ·have b:mE l (k+1)=(mE l k).dropLast++[(mE l k)[d]'cA++[x]]:=(by rw[w,xH,if_neg c,if_neg n,j]);have g:uB l (k+1)=uB l k:=(by rw[y,nH,if_neg c,if_neg n]);have r:ID x.op=0:=(by rw[ID,if_neg c,if_neg n]);have f:∀t,ZF l (k+1) t=ZF l k t:=fun t=>by unfold ZF;rw[g]
   refine⟨by rw[b,g];simp[a,q],fun t o=>?_⟩;have v:t<d+1:=(by rw[b] at o;simpa[a] using o);rw[g,q,f t,u,i t cA,XE,r];simp only;by_cases A:t<d
   ·rw[if_neg cA];congr 1
    ·rw[List.getElem_of_eq b,List.getElem_append_left cA,p]
    ·omega
   ·obtain rfl:t=d:=cA
    rw[if_pos ⟨by omega,n⟩];congr 1
    ·rw[List.getElem_of_eq b,List.getElem_append_right cA];simp[a]
    ·omega
theorem RQ{l:List In}:∀{k:Nat},k<=l.length->aD l k=0->WO l k
 |0,_,_=>Nj l
 |k+1,hk,hf=>by
  have hkl:k<l.length:=cA;have h0:aD l k=0:=by
   rw[aD] at hf;split at hf
   ·assumption
   ·exact hf
  have hw:VD l k=0:=(by rw[aD,if_pos h0] at hf;exact hf);refine Oj hkl (RQ cA h0) (fun h2=>?_);rw[VD,List.getElem?_eq_getElem hkl] at hw;simp only[ZK] at hw;have ht:JB l[k].op=false:=(by simp[JB,h2]);rw[ht,if_neg (by decide:¬(false=true)),if_pos h2] at hw;split at hw
  ·cases hw
  ·split at hw
   ·cases hw
   ·rename_i h;rw[iM] at h;omega
def oF(s:List (List In)):List In:=s.getLast?.getD []
theorem od{l:List In}{k:Nat}(h:WO l k):RH l k=oF (mE l k):=by
 obtain⟨d,b⟩:=qA ((uB l k).length);have c:=h.len;rw[b] at c;have a:=h.at_ d cA;rw[oF,kS (s:=mE l k) (d:=d) cA c];have e:(zE l k).1=ZF l k d:=by
  unfold ZF;rcases Nat.eq_zero_or_pos d with e|e
  ·rw[if_pos e,cP cA]
  ·obtain⟨m,rfl⟩:∃m,d=m+1:=⟨d-1,by omega⟩;rw[if_neg cA,dP cA b,Nat.add_sub_cancel,List.getD_eq_getElem?_getD,List.getElem?_eq_getElem cA];rfl
 have f:RH l k=(vI l k (ZF l k d)).1:=(by rw[RH,vI,e]);rw[f,a]
def RI(places:List (List In))(names:Option (List (KA)))(x:In):Nat:=
 if gB x=false then 7
 else if JB x.op then uI names x.a.toList 0
 else if x.op=2 then(if places.length<=1 then 8 else 0)
 else if(oF places).any (fun y=>decide (y.op=7)) then 11
 else if gD x.op && !x.b.toList.isEmpty&&(oF places).any (cH x) then 10
 else if x.op=1/\9<=places.length then 12
 else 0
theorem gW{l:List In}{k:Nat}(hk:k<l.length)(hf:aD l k=0):VD l k=RI (mE l k) (yG l k) l[k]:=by
 have a:=RQ cA hf;have b:=a.len;rw[VD,List.getElem?_eq_getElem hk];simp only[ZK,RI];rw[jS l _ k 0 cA,od a,iM,b];have c:((uB l k).length=0)=((uB l k).length+1<=1):=(by simp only[eq_iff_iff];omega);have d:(8<=(uB l k).length)=(9<=(uB l k).length+1):=(by simp only[eq_iff_iff];omega);simp only[c,d]
end P13
namespace P12
open Go.RowKit Kd P4 P11
end P12
namespace P13
open Go.RowKit Kd P4 P5 P11 P12
theorem G9{P:Program}{α:Type}{K:Kind P α}{w:World}{B:Nat}{A:jA}{n c k:Nat}{l:List α}(h:K.Own w B (.slice A n c) l)(hk:k<=l.length):K.Own w B (.slice A k c) (l.take k):=by
 rcases h.form with⟨hv,hl⟩|⟨g,c',cur,hv,_,hg,hlt,hh,zC,cC,hcs,ht⟩
 ·injection hv with e1 e2 e3;subst e1;subst e2;subst e3;subst hl;obtain rfl:k=0:=by simpa using hk
  rw[List.take_nil];exact h
 ·injection hv with e1 e2 e3;subst e1;subst e2;subst e3;refine Kind.wG AA hg hh cA cC hcs ?_;rw[Kind.uN,<-ht,List.take_take,Nat.min_eq_left (Nat.mul_le_mul_right _ hk)]
theorem SM{w:World}{D:Nat}{A:jA}{n c:Nat}{l:List Int}(h:kI.Own w D (.slice A n c) l):l.length=n/\n<=c/\c<=maxLen/\(A=none->c=0)/\kI.pA w w.heap.size A l:=by
 obtain⟨i,j,k,a,b,d,e,f,g⟩:=h.slice;injection a with h1 h2 h3;subst h1;subst h2;subst h3;exact⟨b,d,e,f,g⟩
theorem WJ(op:Int)(w:World):fA 60 #[aA op] w fun e w'=>e= .returned (.bool (JB op))/\w=w':=by
 by_cases a:op=5
 ·subst a;go_enter func60,ntmps60;go_wp2_with fail;go_ret;exact⟨rfl,rfl⟩
 by_cases b:op=6
 ·subst b;go_enter func60,ntmps60;go_wp2_with fail;go_ret;exact⟨rfl,rfl⟩
 have e:JB op=false:=(by simp[JB,a,b]);rw[e];have c:=int_ne a;have d:=int_ne b;go_enter func60,ntmps60;go_wp2_with fail;go_ret;exact⟨rfl,rfl⟩
def pR(w:World)(l:List In)(k:Nat)(s6 s7:Value)(wr:World):Prop:=∃(i:Nat) (A':jA) (n' c':Nat),i<=k/\s7 = aA i/\s6= .slice A' n' c'/\Hid (kI.Own wr w.heap.size (.slice A' n' c') (uB l i))/\Hid (eA w wr)
theorem oT(l:List In)(A:jA)(n c k:Nat)(w:World)(hh:kX.pA w w.heap.size A l)(hn:l.length=n)(hk:k<=n)(hl:n<=1000):
 fA 59 #[.slice A n c,aA k] w fun e w'=>e= .returned (.tuple #[aA (zE l k).1,aA ((zE l k).2:Nat)])/\eA w w':=by
 have KH:=Zh hh;have KL:=Zh hn;have T:Hid (pR w l k (vA) (aA 0) w):=Zh ⟨0,none,0,0,by omega,rfl,rfl,Zh (Kind.Own.nil kI w _),Zh Ze⟩;clear hh hn;go_enter func59,ntmps59;go_wp2_with fail;go_loopw [6,7] (fun s6 I wr=>pR w l k s6 I wr) (fun _ I _=>k-(intOf I).toNat)
 case atStart=>exact T
 case round=>
  obtain⟨i,x,j,t,hi,rfl,rfl,r,q⟩:=hrel;clear T;have J:=lP l i;have y:=SM r;have s:=Zh y.1;have U:=y.2.1;have z:=y.2.2.1;unfold maxLen at z;have a0:j<=i:=(uA y.1);clear y J;by_cases a1:i<k
  ·have C:i<l.length:=(uA KL.out);obtain⟨b,o,rfl,hb,D,K,L⟩:=TG KH C;have G:Hid (∀M,eA w M->M.cell? ⟨b,o+i*3,none⟩=some (aA l[i].op)):=Zh (fun M h=>(h.cell hb).trans D);have u:=G wr q;have H:=Zh (eM C);clear D K L;generalize l[i]=d at u G H;obtain⟨N,a,bb⟩:=d;simp only at u G;have O:=q.size;by_cases P:N=1
   ·subst P;have g:Hid (uB l (i+1)=uB l i++[(i:Int)+1]):=Zh (by rw[H.out,nH,if_pos rfl]);have V:Hid (kI.pA (wr.alloc (.cells #[aA ((i:Int)+1)] 3)) (wr.heap.size+1) (some ⟨wr.heap.size,0,none⟩) [(i:Int)+1]):=Zh (Kind.pA.lit (heap_alloc_new wr _) rfl);go_upto_region 7 with(at_builtin;refine kI.iC rfl _ _ rfl (v:=.slice x j t) (l:=uB l i) (m:=[(i:Int)+1]) (B:=w.heap.size) rfl (r.alloc _) rfl rfl RB V (uA s.out) AA ?_;intro v' W f p Q;obtain⟨A4,n4,c4,rfl,e1,e2,e3,e4,e5⟩:=f.slice;have X:Hid (eA w W):=Zh ((q.alloc O _).grown p AA (fun k hk=>(r.lt hk).1));have O4:=Zh f;clear f p Q e1 e2 e3 e4 e5);clear V u;have u:=G W X;go_wp2_with fail;go_roundw
    case rel=>exact⟨i+1,A4,n4,c4,by omega,by go_num,rfl,Zh (by rw[g.out];exact O4),X⟩
    case measure=>simp[intOf];omega
   ·have q1:=int_ne P;by_cases R:N=2
    ·subst R;have g:Hid (uB l (i+1)=(uB l i).dropLast):=Zh (by rw[H.out,nH,if_neg (show¬((2:Int)=1) by decide),if_pos rfl]);by_cases Y:0<j
     ·have Z:Hid (kI.Own wr w.heap.size (.slice x (j-1) t) (uB l (i+1))):=Zh (by
       rw[g.out,List.dropLast_eq_take,s.out];exact G9 r (uA s.out))
      obtain⟨m,rfl⟩:∃m,j=m+1:=⟨j-1,by omega⟩;rw[Nat.add_sub_cancel] at Z;have i1:((m+1:Nat):Int)-1=(m:Int):=cA;have i2:(m:Int)<=(t:Int):=cA;go_wp2_with fail;go_roundw
      case rel=>exact⟨i+1,x,m,t,by omega,by go_num,by first|rfl|(congr 1),Z,q⟩
      case measure=>simp[intOf];omega
     ·obtain rfl:j=0:=cA
      have hz:uB l i=[]:=List.eq_nil_of_length_eq_zero s;have S:Hid (uB l (i+1)=uB l i):=Zh (by rw[g.out,hz];rfl);clear hz;go_wp2_with fail;go_roundw
      case rel=>exact⟨i+1,x,0,t,by omega,by go_num,rfl,Zh (by rw[S.out];exact r),q⟩
      case measure=>simp[intOf];omega
    ·have q2:=int_ne R;have g:Hid (uB l (i+1)=uB l i):=Zh (by rw[H.out,nH,if_neg P,if_neg R]);go_wp2_with fail;go_roundw
     case rel=>exact⟨i+1,x,j,t,by omega,by go_num,rfl,Zh (by rw[g.out];exact r),q⟩
     case measure=>simp[intOf];omega
  ·obtain rfl:i=k:=cA
   by_cases Y:j=0
   ·subst Y;have E:=Zh (cP s);go_wp2_with fail;go_ret2;exact⟨by rw[E.out];rfl,q⟩
   ·obtain⟨m,rfl⟩:∃m,j=m+1:=⟨j-1,by omega⟩;have F:m<(uB l i).length:=(uA s.out);have E:=Zh (dP F s);obtain⟨gb,go,rfl,_,u⟩:=mD (SM r).2.2.2.2 F;generalize (uB l i)[m]=pv at u E;have q0:(((m+1:Nat):Int)==0)=false:=AA;have i1:((m+1:Nat):Int)-1=(m:Int):=cA;go_wp2_with fail;go_ret2;exact⟨by rw[E.out];rfl,q⟩
end P13
namespace P14
open Go.RowKit Kd P4 P5 P11 P12 P13
inductive PW where
 |mk (kind:Int) (tag key txt:wA) (attrs:List P3.At) (kids:List PW)
inductive WV where
 |mk (kind:Int) (tag key txt:wA) (sa:Sv) (attrs:List P3.At) (sk:Sv) (kids:List WV)
theorem PW.ind{Q:PW->Prop}(h:∀kind tag key txt attrs kids,(∀k∈kids,Q k)->Q (.mk kind tag key txt attrs kids))(t:PW):Q t:=
 PW.rec (motive_1:=Q) (motive_2:=fun l=>∀k∈l,Q k) (fun a b c d e f ih=>h a b c d e f ih) (fun _ g=>by cases g) (fun a l i j k g=>by
  rcases List.mem_cons.1 g with rfl|g
  ·exact i
  ·exact j k g) t
theorem WV.ind{Q:WV->Prop}(h:∀kind tag key txt sa attrs sk kids,(∀k∈kids,Q k)->Q (.mk kind tag key txt sa attrs sk kids))(t:WV):Q t:=
 WV.rec (motive_1:=Q) (motive_2:=fun l=>∀k∈l,Q k) (fun a b c d e f g i ih=>h a b c d e f g i ih) (fun _ j=>by cases j) (fun a l m n k j=>by
  rcases List.mem_cons.1 j with rfl|j
  ·exact m
  ·exact n k j) t
namespace WV
def kind:WV->Int| .mk a _ _ _ _ _ _ _=>a
def tag:WV->wA| .mk _ a _ _ _ _ _ _=>a
def key:WV->wA| .mk _ _ a _ _ _ _ _=>a
def txt:WV->wA| .mk _ _ _ a _ _ _ _=>a
def sa:WV->Sv| .mk _ _ _ _ a _ _ _=>a
def attrs:WV->List P3.At| .mk _ _ _ _ _ a _ _=>a
def sk:WV->Sv| .mk _ _ _ _ _ _ a _=>a
def kids:WV->List WV| .mk _ _ _ _ _ _ _ a=>a
end WV
namespace PW
def kind:PW->Int| .mk a _ _ _ _ _=>a
def tag:PW->wA| .mk _ a _ _ _ _=>a
def key:PW->wA| .mk _ _ a _ _ _=>a
def txt:PW->wA| .mk _ _ _ a _ _=>a
def attrs:PW->List P3.At| .mk _ _ _ _ a _=>a
def kids:PW->List PW| .mk _ _ _ _ _ a=>a
end PW
mutual
def er:WV->PW
 | .mk kind tag key txt _ attrs _ kids=> .mk kind tag key txt attrs (oA kids)
def oA:List WV->List PW
 |[]=>[]
 |a:: l=>er a:: oA l
end
theorem IB:∀l:List WV,oA l=l.map er
 |[]=>by simp[oA]
 |a:: l=>by simp[oA,IB l]
theorem DK(l m:List WV):oA (l++m)=oA l++oA m:=by simp[IB]
theorem uO{l:List WV}{k:Nat}(h:k<l.length)(h':k<(oA l).length):(oA l)[k]=er l[k]:=by simp[IB]
theorem TE(t:WV):er t= .mk t.kind t.tag t.key t.txt t.attrs (oA t.kids):=by cases t;rw[er];rfl
mutual
def aG:PW->Nat
 | .mk kind _ _ _ _ kids=>if kind=2 then 1 else if kind=1 then 1+fB kids else 0
def fB:List PW->Nat
 |[]=>0
 |a:: l=>aG a+fB l
end
mutual
def fF:PW->Nat
 | .mk _ _ _ _ attrs kids=>1+attrs.length+JC kids
def JC:List PW->Nat
 |[]=>0
 |a:: l=>fF a+JC l
end
theorem Gn(t:PW):1<=fF t:=by cases t;rw[fF];omega
theorem uS:∀l m:List PW,JC (l++m)=JC l+JC m
 |[],m=>by simp[JC]
 |a:: l,m=>by simp[JC,uS l m];omega
theorem aL:∀l:List PW,l.length<=JC l
 |[]=>by simp[JC]
 |a:: l=>by have:=aL l;have:=Gn a;simp[JC];omega
theorem tU:∀{l:List PW} {t:PW},t∈l->fF t<=JC l
 |a:: l,t,h=>by
  rw[JC];rcases List.mem_cons.1 h with rfl|h
  ·omega
  ·have:=tU h;omega
theorem tW:∀l m:List PW,fB (l++m)=fB l+fB m
 |[],m=>by simp[fB]
 |a:: l,m=>by simp[fB,tW l m];omega
theorem BP{l:List PW}{k:Nat}(h:k<l.length):fB (l.take (k+1))=fB (l.take k)+aG l[k]:=by
 rw[List.take_add_one,List.getElem?_eq_getElem h,tW];simp[fB]
theorem jq(t:PW):aG t<=fF t:=by
 induction t using PW.ind with
 |h kind tag key txt attrs kids ih=>
  have:∀l:List PW,(∀k∈l,aG k<=fF k)->fB l<=JC l:=by
   intro l
   induction l with
   |nil=>intro _;simp[fB]
   |cons a l ih2=>
    intro h;have c:=h a DA;have d:=ih2 (fun k b=>h k (by simp[b]));rw[fB,JC];omega
  have:=this kids ih;rw[aG,fF];split
  ·omega
  ·split<;>omega
theorem uU:∀l:List PW,fB l<=JC l
 |[]=>by simp[fB]
 |a:: l=>by have:=uU l;have:=jq a;rw[fB,JC];omega
def bq(a b:wA):Bool:=a.toList==b.toList
def z0:wA:=bs []
def dC(a:P3.At):In:=⟨if a.st then 6 else 5,a.nm,a.vl⟩
def FL(x:In):P3.At:=⟨x.a,x.b,decide (x.op=6)⟩
theorem Pj{x:In}(h:JB x.op=true):dC (FL x)=x:=by
 obtain⟨c,a,b⟩:=x;simp only[JB,decide_eq_true_eq] at h;rcases h with rfl|rfl<;>simp[dC,FL]
mutual
def pB:PW->List In
 | .mk kind tag key txt attrs kids=>
   if kind=1 then(if P1.fC tag.data.toList then⟨3,tag,key⟩:: attrs.map dC else⟨1,tag,key⟩:: (attrs.map dC++(cB kids++[⟨2,z0,z0⟩])))
   else if kind=2 then[⟨4,txt,z0⟩] else if kind=3 then[⟨8,z0,z0⟩] else if kind=4 then[⟨7,z0,z0⟩] else[]
def cB:List PW->List In
 |[]=>[]
 |a:: l=>pB a++cB l
end
theorem bM:∀l m:List PW,cB (l++m)=cB l++cB m
 |[],m=>by simp[cB]
 |a:: l,m=>by simp[cB,bM l m]
theorem DP(a:PW):cB [a]=pB a:=by simp[cB]
inductive VB:PW->Prop
 |el {tag key:wA} {attrs:List P3.At} {kids:List PW} (hm:gB ⟨1,tag,key⟩=true) (ha:∀a∈attrs,gB (dC a)=true) (hk:∀k∈kids,VB k):VB (.mk 1 tag key z0 attrs kids)
 |vo {tag key:wA} {attrs:List P3.At} (hm:gB ⟨3,tag,key⟩=true) (ha:∀a∈attrs,gB (dC a)=true):VB (.mk 1 tag key z0 attrs [])
 |tx {t:wA} (hm:gB ⟨4,t,z0⟩=true):VB (.mk 2 z0 z0 t [] [])
 |nd:VB (.mk 3 z0 z0 z0 [] [])
 |al:VB (.mk 4 z0 z0 z0 [] [])
theorem FI{a b:wA}(h:gB ⟨1,a,b⟩=true):P1.fC a.data.toList=false:=by
 simp only[gB,if_true,Bool.and_eq_true,Bool.not_eq_true'] at h;exact h.1.2
theorem II{a b:wA}(h:gB ⟨3,a,b⟩=true):P1.fC a.data.toList=true:=by
 have e:gB ⟨3,a,b⟩=(P1.fC a.data.toList&&P1.YB b.data.toList):=(by simp[gB]);rw[e,Bool.and_eq_true] at h;exact h.1
theorem lI{tag key txt:wA}{attrs:List P3.At}{kids:List PW}(h:P1.fC tag.data.toList=false):pB (.mk 1 tag key txt attrs kids)=⟨1,tag,key⟩:: (attrs.map dC++(cB kids++[⟨2,z0,z0⟩])):=by
 rw[pB,if_pos rfl,h,if_neg nA]
theorem lJ{tag key txt:wA}{attrs:List P3.At}{kids:List PW}(h:P1.fC tag.data.toList=true):pB (.mk 1 tag key txt attrs kids)=⟨3,tag,key⟩:: attrs.map dC:=by
 rw[pB,if_pos rfl,if_pos h]
structure Fr where
 done:List PW
 tag:wA
 key:wA
 attrs:List P3.At
structure St where
 stack:List Fr
 cur:List PW
def PW.yB:PW->P3.At->PW
 | .mk k t y x a ks,n=> .mk k t y x (a++[n]) ks
def lR:List PW->P3.At->List PW
 |[],_=>[]
 |[a],n=>[a.yB n]
 |a:: b:: l,n=>a:: lR (b:: l) n
theorem VW(t:PW)(n:P3.At):∀l:List PW,lR (l++[t]) n=l++[t.yB n]
 |[]=>rfl
 |[b]=>rfl
 |b:: c:: l=>by
  have:=VW t n (c:: l);show b:: lR ((c:: l)++[t]) n=_;rw[this];rfl
def XF(s:St)(x:In):St:=
 if x.op=1 then⟨⟨s.cur,x.a,x.b,[]⟩:: s.stack,[]⟩
 else if x.op=2 then(match s.stack with
  |[]=>s
  |f:: r=>⟨r,f.done++[.mk 1 f.tag f.key z0 f.attrs s.cur]⟩)
 else if x.op=3 then⟨s.stack,s.cur++[.mk 1 x.a x.b z0 [] []]⟩
 else if x.op=4 then⟨s.stack,s.cur++[.mk 2 z0 z0 x.a [] []]⟩
 else if x.op=7 then⟨s.stack,s.cur++[.mk 4 z0 z0 z0 [] []]⟩
 else if x.op=8 then⟨s.stack,s.cur++[.mk 3 z0 z0 z0 [] []]⟩
 else(match s.cur,s.stack with
  |[],[]=>s
  |[],f:: r=>⟨⟨f.done,f.tag,f.key,f.attrs++[FL x]⟩:: r,[]⟩
  |a:: l,st=>⟨st,lR (a:: l) (FL x)⟩)
theorem Ld{x:In}{f:Fr}{r:List Fr}(h:JB x.op=true):XF ⟨f:: r,[]⟩ x=⟨⟨f.done,f.tag,f.key,f.attrs++[FL x]⟩:: r,[]⟩:=by
 simp only[JB,decide_eq_true_eq] at h;rw[XF,if_neg cA,if_neg cA,if_neg cA,if_neg cA,if_neg cA,if_neg cA]
theorem Oe{x:In}{st:List Fr}{init:List PW}{t:PW}(h:JB x.op=true):XF ⟨st,init++[t]⟩ x=⟨st,init++[t.yB (FL x)]⟩:=by
 simp only[JB,decide_eq_true_eq] at h;rw[XF,if_neg cA,if_neg cA,if_neg cA,if_neg cA,if_neg cA,if_neg cA,<-VW];cases init<;>rfl
def BJ(l:List In)(k:Nat):St:=(l.take k).foldl XF ⟨[],[]⟩
def QB(l:List In):List PW:=(l.foldl XF ⟨[],[]⟩).cur
theorem Md{l:List In}{k:Nat}(h:k<l.length):BJ l (k+1)=XF (BJ l k) l[k]:=by
 unfold BJ;rw[List.take_add_one,List.getElem?_eq_getElem h,List.foldl_append];rfl
def bN:List Fr->List In
 |[]=>[]
 |f:: r=>bN r++(cB f.done++(⟨1,f.tag,f.key⟩:: f.attrs.map dC))
structure Gt(f:Fr):Prop where
 done:∀t∈f.done,VB t
 may:gB ⟨1,f.tag,f.key⟩=true
 attrs:∀a∈f.attrs,gB (dC a)=true
structure Inv(l:List In)(k:Nat)(s:St):Prop where
 text:bN s.stack++cB s.cur=l.take k
 cur:∀t∈s.cur,VB t
 wK:∀f∈s.stack,Gt f
 len:s.stack.length=(uB l k).length
 mode:yG l k≠none->(s.cur=[]/\s.stack≠[])\/∃(init:List PW) (tag key:wA) (attrs:List P3.At),s.cur=init++[.mk 1 tag key z0 attrs []]/\gB ⟨3,tag,key⟩=true/\∀a∈attrs,gB (dC a)=true
theorem nP{l:List In}{k:Nat}(h:k<l.length)(h1:gD l[k].op=false)(h2:JB l[k].op=false):yG l (k+1)=none:=by
 rw[fP h,gS h1 h2]
theorem rQ{l:List In}{k:Nat}{s:St}(h:Inv l k s)(hk:k<l.length){t:PW}(ht:VB t)(hb:pB t=[l[k]])(h1:l[k].op≠1)(h2:l[k].op≠2)(hmode:yG l (k+1)≠none->∃(tag key:wA) (attrs:List P3.At),t= .mk 1 tag key z0 attrs []/\gB ⟨3,tag,key⟩=true/\∀a∈attrs,gB (dC a)=true):Inv l (k+1) ⟨s.stack,s.cur++[t]⟩ where
 text:=by
  rw[List.take_add_one,List.getElem?_eq_getElem hk,<-h.text];simp only[bM,DP,hb,Option.toList_some,List.append_assoc]
 cur:=fun u b=>by
  rcases List.mem_append.1 b with b|b
  ·exact h.cur u b
  ·rw[List.mem_singleton.1 b];exact ht
 wK:=h.wK
 len:=by rw[h.len,eM hk,nH,if_neg h1,if_neg h2]
 mode:=fun c=>by
  obtain⟨tag,key,attrs,e,d,f⟩:=hmode c;exact .inr ⟨s.cur,tag,key,attrs,by rw[e],d,f⟩
theorem Qj{l:List In}{k:Nat}(hk:k<l.length)(h:Inv l k (BJ l k))(hf:aD l k=0)(hw:VD l k=0):Inv l (k+1) (BJ l (k+1)):=by
 rw[Md hk];have p:=gW hk hf;rw[hw] at p;have T:=(RQ cA hf).len;generalize U:BJ l k=s at h;clear U;obtain⟨c,i⟩:=s;have d:gB l[k]=true:=by
  cases hm:gB l[k] with
  |true=>rfl
  |false=>rw[RI,if_pos hm] at p;cases p
 obtain⟨_,_,V,W,O,P⟩:=DN d;have hx:∀x,l[k]=x->l[k]=x:=fun _ e=>e
 by_cases q:l[k].op=1
 ·have v:XF ⟨c,i⟩ l[k]=⟨⟨i,l[k].a,l[k].b,[]⟩:: c,[]⟩:=(by rw[XF,if_pos q]);rw[v];have G:(⟨1,l[k].a,l[k].b⟩:In)=l[k]:=(by rw[<-q]);refine⟨?_,(fun t n=>by cases n),fun f hf=>?_,?_,fun _=> .inl ⟨rfl,by simp⟩⟩
  ·rw[List.take_add_one,List.getElem?_eq_getElem hk,<-h.text];simp only[bN,cB,List.map_nil,List.append_nil,Option.toList_some,G,List.append_assoc]
  ·rcases List.mem_cons.1 hf with rfl|hf
   ·exact⟨h.cur,by rw[G];exact d,fun a u=>by cases u⟩
   ·exact h.wK f hf
  ·rw[eM hk,nH,if_pos q,List.length_append,<-h.len];simp
 by_cases o:l[k].op=2
 ·have w:=O (by rw[o];rfl);have Q:l[k]=⟨2,z0,z0⟩:=by
   obtain⟨j,m⟩:=w;generalize l[k]=x at o j m;obtain⟨y,a,b⟩:=x;simp only at o j m;rw[o,j,m];rfl
  have H:0<c.length:=by
   rw[h.len];rw[RI,if_neg (by rw[d];decide),if_neg (by rw[o];decide),if_pos o] at p;split at p
   ·cases p
   ·omega
  cases c with
  |nil=>simp at H
  |cons f r=>
   have v:XF ⟨f:: r,i⟩ l[k]=⟨r,f.done++[.mk 1 f.tag f.key z0 f.attrs i]⟩:=(by rw[XF,if_neg q,if_pos o]);rw[v];have A:=h.wK f DA;refine⟨?_,fun t n=>?_,fun g I=>h.wK g (by simp[I]),?_,fun z=>absurd (nP hk (by rw[o];rfl) (by rw[o];rfl)) z⟩
   ·rw[List.take_add_one,List.getElem?_eq_getElem hk,<-h.text];simp only[bN,bM,DP,lI (FI A.may),Option.toList_some,List.append_assoc,List.cons_append,Q]
   ·rcases List.mem_append.1 n with n|n
    ·exact A.done t n
    ·rw[List.mem_singleton.1 n];exact .el A.may A.attrs h.cur
   ·rw[eM hk,nH,if_neg q,if_pos o,List.length_dropLast,<-h.len];simp
 by_cases J:l[k].op=3
 ·have K:l[k]=⟨3,l[k].a,l[k].b⟩:=(by rw[<-J]);have v:XF ⟨c,i⟩ l[k]=⟨c,i++[.mk 1 l[k].a l[k].b z0 [] []]⟩:=(by rw[XF,if_neg q,if_neg o,if_pos J]);rw[v];have D:gB ⟨3,l[k].a,l[k].b⟩=true:=(by rw[<-K];exact d);exact rQ h hk (.vo D (fun a u=>by cases u)) (by rw[lJ (II D),List.map_nil,<-K]) q o (fun _=>⟨_,_,[],rfl,D,(fun a u=>by cases u)⟩)
 by_cases E:l[k].op=4
 ·have X:=P (by rw[E];rfl);have L:l[k]=⟨4,l[k].a,z0⟩:=(by rw[<-E];show l[k]=⟨l[k].op,l[k].a,bs []⟩;rw[<-X]);have v:XF ⟨c,i⟩ l[k]=⟨c,i++[.mk 2 z0 z0 l[k].a [] []]⟩:=(by rw[XF,if_neg q,if_neg o,if_neg J,if_pos E]);rw[v];exact rQ h hk (.tx (by rw[<-L];exact d)) (by rw[pB,if_neg nA,if_pos rfl,<-L]) q o (fun z=>absurd (nP hk (by rw[E];rfl) (by rw[E];rfl)) z)
 by_cases B:l[k].op=7
 ·have w:=O (by rw[B];rfl);have R:l[k]=⟨7,z0,z0⟩:=by
   obtain⟨j,m⟩:=w;generalize l[k]=x at B j m;obtain⟨y,a,b⟩:=x;simp only at B j m;rw[B,j,m];rfl
  have v:XF ⟨c,i⟩ l[k]=⟨c,i++[.mk 4 z0 z0 z0 [] []]⟩:=(by rw[XF,if_neg q,if_neg o,if_neg J,if_neg E,if_pos B]);rw[v];exact rQ h hk .al (by rw[pB,if_neg nA,if_neg nA,if_neg nA,if_pos rfl,R]) q o (fun z=>absurd (nP hk (by rw[B];rfl) (by rw[B];rfl)) z)
 by_cases F:l[k].op=8
 ·have w:=O (by rw[F];rfl);have S:l[k]=⟨8,z0,z0⟩:=by
   obtain⟨j,m⟩:=w;generalize l[k]=x at F j m;obtain⟨y,a,b⟩:=x;simp only at F j m;rw[F,j,m];rfl
  have v:XF ⟨c,i⟩ l[k]=⟨c,i++[.mk 3 z0 z0 z0 [] []]⟩:=(by rw[XF,if_neg q,if_neg o,if_neg J,if_neg E,if_neg B,if_pos F]);rw[v];exact rQ h hk .nd (by rw[pB,if_neg nA,if_neg nA,if_pos rfl,S]) q o (fun z=>absurd (nP hk (by rw[F];rfl) (by rw[F];rfl)) z)
 ·have n:JB l[k].op=true:=(by simp only[JB,decide_eq_true_eq];omega);have z:yG l k≠none:=fun e=>by
   rw[RI,if_neg (by rw[d];decide),if_pos n,e] at p;cases p
  have N:=Pj n;have C:(uB l (k+1)).length=(uB l k).length:=(by rw[eM hk,nH,if_neg q,if_neg o]);rcases h.mode z with⟨hc,hst⟩|⟨init,tag,key,attrs,hc,hm,u⟩
  ·simp only at hc hst;subst hc;cases c with
   |nil=>exact absurd rfl hst
   |cons f r=>
    rw[Ld n];have A:=h.wK f DA;refine⟨?_,(fun t n=>by cases n),fun g I=>?_,by rw[C,<-h.len];rfl,fun _=> .inl ⟨rfl,by simp⟩⟩
    ·rw[List.take_add_one,List.getElem?_eq_getElem hk,<-h.text];simp only[bN,cB,List.map_append,List.map_cons,List.map_nil,List.append_nil,Option.toList_some,N,List.append_assoc,List.cons_append]
    ·rcases List.mem_cons.1 I with rfl|I
     ·refine⟨A.done,A.may,fun a u=>?_⟩;rcases List.mem_append.1 u with u|u
      ·exact A.attrs a u
      ·rw[List.mem_singleton.1 u,N];exact d
     ·exact h.wK g (by simp[I])
  ·simp only at hc;subst hc;rw[Oe n,PW.yB];have M:∀a∈attrs++[FL l[k]],gB (dC a)=true:=fun a h=>by
    rcases List.mem_append.1 h with h|h
    ·exact u a h
    ·rw[List.mem_singleton.1 h,N];exact d
   refine⟨?_,fun t n=>?_,h.wK,by rw[C,<-h.len],fun _=> .inr ⟨init,tag,key,_,rfl,hm,M⟩⟩
   ·rw[List.take_add_one,List.getElem?_eq_getElem hk,<-h.text];simp only[bM,DP,lJ (II hm),List.map_append,List.map_cons,List.map_nil,Option.toList_some,N,List.append_assoc,List.cons_append]
   ·rcases List.mem_append.1 n with n|n
    ·exact h.cur t (by simp[n])
    ·rw[List.mem_singleton.1 n];exact .vo hm M
theorem J8{l:List In}:∀{k:Nat},k<=l.length->aD l k=0->Inv l k (BJ l k)
 |0,_,_=>⟨rfl,(fun t ht=>by cases ht),(fun f hf=>by cases hf),rfl,fun h=>absurd rfl h⟩
 |k+1,hk,hf=>by
  have h0:aD l k=0:=by
   rw[aD] at hf;split at hf
   ·assumption
   ·exact hf
  have hw:VD l k=0:=(by rw[aD,if_pos h0] at hf;exact hf);exact Qj cA (J8 cA h0) h0 hw
theorem lS{l:List In}(h:bD l=0):l.length<=120/\aD l l.length=0/\(uB l l.length).length=0:=by
 unfold bD at h;split at h
 ·cases h
 ·split at h
  ·rename_i h1 h2;split at h
   ·cases h
   ·rename_i h3;rw[iM] at h3;exact⟨by omega,h2,by omega⟩
  ·rename_i h1 h2;exact absurd h h2
theorem EN{l:List In}(h:bD l=0):cB (QB l)=l/\∀t∈QB l,VB t:=by
 obtain⟨_,f,g⟩:=lS h;have a:=J8 Zl f;have c:BJ l l.length=l.foldl XF ⟨[],[]⟩:=(by rw[BJ,List.take_length]);have d:=a.len;rw[g] at d;have e:=a.text;rw[List.eq_nil_of_length_eq_zero d,bN,List.nil_append,List.take_length,c] at e;refine⟨e,fun t b=>a.cur t ?_⟩;rw[c];exact b
end P14
namespace P14
open Go.RowKit Kd P4 P5 P11 P12 P13
def zG(l:List In):Prop:=∀x,l.head? = some x->JB x.op=false
theorem WW{e:PW}(h:VB e):∃x r,pB e=x:: r/\JB x.op=false:=by
 cases h with
 |el hm ha hk=>exact⟨_,_,lI (FI hm),rfl⟩
 |vo hm ha=>exact⟨_,_,lJ (II hm),rfl⟩
 |tx hm=>exact⟨_,_,by rw[pB,if_neg nA,if_pos rfl],rfl⟩
 |nd=>exact⟨_,_,by rw[pB,if_neg nA,if_neg nA,if_pos rfl],rfl⟩
 |al=>exact⟨_,_,by rw[pB,if_neg nA,if_neg nA,if_neg nA,if_pos rfl],rfl⟩
theorem jY{e:PW}(h:VB e):1<=(pB e).length:=by
 obtain⟨x,r,a,_⟩:=WW h;rw[a];simp
theorem oP{l:List PW}{r:List In}(h:∀t∈l,VB t)(hr:zG r):zG (cB l++r):=by
 cases l with
 |nil=>rw[cB,List.nil_append];exact hr
 |cons a l=>
  obtain⟨x,q,c,d⟩:=WW (h a DA);intro y b;rw[cB,c] at b;simp only[List.cons_append,List.head?_cons,Option.some.injEq] at b;rw[<-b];exact d
theorem zG.nil:zG []:=fun x h=>by cases h
theorem zG.cons{x:In}{r:List In}(h:JB x.op=false):zG (x:: r):=fun y a=>by
 simp only[List.head?_cons,Option.some.injEq] at a;rw[<-a];exact h
def ds:List In->Int
 |[]=>0
 |x:: l=>ID x.op+ds l
theorem JH:∀l m:List In,ds (l++m)=ds l+ds m
 |[],m=>by simp[ds]
 |a:: l,m=>by simp[ds,JH l m];omega
theorem SU:∀(l:List P3.At) (i:Nat),ds ((l.map dC).take i)=0
 |[],i=>by simp[ds]
 |a:: l,0=>by simp[ds]
 |a:: l,i+1=>by
  rw[List.map_cons,List.take_succ_cons,ds,SU l i];cases h:a.st<;>simp[dC,h,ID]
theorem vS(l:List P3.At):ds (l.map dC)=0:=by
 have:=SU l (l.map dC).length;rwa[List.take_length] at this
structure SJ(l:List In):Prop where
 all:ds l=0
 pre:∀i,0<=ds (l.take i)
theorem SJ.append{l m:List In}(h:SJ l)(k:SJ m):SJ (l++m):=
 ⟨by rw[JH,h.all,k.all];rfl,fun i=>by
  rw[List.take_append,JH];have:=h.pre i;have:=k.pre (i-l.length);omega⟩
theorem DZ{l:List PW}(h:∀t∈l,SJ (pB t)):SJ (cB l):=by
 induction l with
 |nil=>exact⟨rfl,fun i=>by simp[cB,ds]⟩
 |cons a l ih=>exact(h a DA).append (ih (fun t b=>h t (by simp[b])))
theorem EZ(x:In)(l:List In)(i:Nat):ds ((x:: l).take (i+1))=ID x.op+ds (l.take i):=by rw[List.take_succ_cons,ds]
theorem FZ{l:List In}(h:∀x∈l,ID x.op=0):∀i,ds (l.take i)=0:=by
 induction l with
 |nil=>intro i;simp[ds]
 |cons a l ih=>
  intro i;cases i with
  |zero=>simp[ds]
  |succ i=>rw[EZ,h a DA,ih (fun x hx=>h x (by simp[hx])) i];rfl
theorem ZP{l:List In}(h:∀x∈l,ID x.op=0):SJ l:=
 ⟨by have:=FZ h l.length;rwa[List.take_length] at this,fun i=>by rw[FZ h i];omega⟩
theorem YW{tag key:wA}{attrs:List P3.At}{kids:List PW}(hk:SJ (cB kids)){i:Nat}(h1:1<=i)(h2:i<(pB (.mk 1 tag key z0 attrs kids)).length)(hv:P1.fC tag.data.toList=false):1<=ds ((pB (.mk 1 tag key z0 attrs kids)).take i):=by
 rw[lI hv] at h2|-;obtain⟨j,rfl⟩:∃j,i=j+1:=⟨i-1,by omega⟩;simp only[List.length_cons,List.length_append,List.length_map,List.length_nil] at h2;rw[EZ,List.take_append,JH,SU,List.take_append,JH];have a:=hk.pre (j-(attrs.map dC).length);have:(List.take (j-(List.map dC attrs).length-(cB kids).length) [(⟨2,z0,z0⟩:In)])=[]:=by
  rw[List.length_map];have:j-attrs.length-(cB kids).length=0:=cA;rw[this];rfl
 rw[this];simp only[ID,ds,if_true];omega
theorem kq(e:PW)(h:VB e):SJ (pB e):=by
 induction e using PW.ind with
 |h kind tag key txt attrs kids ih=>
  cases h with
  |el hm ha hk=>
   have b:=FI hm;have c:=DZ (fun t d=>ih t d (hk t d));refine⟨?_,fun i=>?_⟩
   ·rw[lI b,ds,JH,JH,vS,c.all];rfl
   ·rcases Nat.lt_or_ge i (pB (.mk 1 tag key z0 attrs kids)).length with h2|h2
    ·rcases Nat.eq_zero_or_pos i with h0|h0
     ·rw[h0];simp[ds]
     ·have:=YW c h0 h2 b;omega
    ·rw[List.take_of_length_le h2,lI b,ds,JH,JH,vS,c.all];simp[ID,ds]
  |vo hm ha=>
   rw[lJ (II hm)];exact ZP (fun x hx=>by
    rcases List.mem_cons.1 hx with rfl|hx
    ·rfl
    ·obtain⟨a,_,rfl⟩:=List.mem_map.1 hx;cases hst:a.st<;>simp[dC,hst,ID])
  |tx hm=>rw[pB,if_neg nA,if_pos rfl];exact ZP (fun x hx=>by rw[List.mem_singleton.1 hx];rfl)
  |nd=>rw[pB,if_neg nA,if_neg nA,if_pos rfl];exact ZP (fun x hx=>by rw[List.mem_singleton.1 hx];rfl)
  |al=>rw[pB,if_neg nA,if_neg nA,if_neg nA,if_pos rfl];exact ZP (fun x hx=>by rw[List.mem_singleton.1 hx];rfl)
theorem Mg{tag key:wA}{attrs:List P3.At}{kids:List PW}(hm:gB ⟨1,tag,key⟩=true)(hk:∀k∈kids,VB k):ds (pB (.mk 1 tag key z0 attrs kids))=0/\∀i,1<=i->i<(pB (.mk 1 tag key z0 attrs kids)).length->1<=ds ((pB (.mk 1 tag key z0 attrs kids)).take i):=by
 have a:=DZ (fun t c=>kq t (hk t c));have b:=FI hm;exact⟨by rw[lI b,ds,JH,JH,vS,a.all];rfl,fun i d e=>YW a d e b⟩
theorem IZ:∀l:List In,-(l.length:Int)<=ds l/\ds l<=l.length
 |[]=>by simp[ds]
 |x:: l=>by
  have:=IZ l;rw[ds,List.length_cons,ID];split
  ·omega
  ·split<;>omega
theorem M8{l:List PW}(h:∀t∈l,fF t<=(pB t).length):JC l<=(cB l).length:=by
 induction l with
 |nil=>simp[JC]
 |cons a l ih=>
  have c:=h a DA;have d:=ih (fun t b=>h t (by simp[b]));rw[cB,List.length_append,JC];omega
theorem Br(e:PW)(h:VB e):fF e<=(pB e).length:=by
 induction e using PW.ind with
 |h kind tag key txt attrs kids ih=>
  cases h with
  |el hm ha hk=>
   have:=M8 (fun t a=>ih t a (hk t a));rw[lI (FI hm),fF];simp only[List.length_cons,List.length_append,List.length_map,List.length_nil];omega
  |vo hm ha=>rw[lJ (II hm),fF];simp[JC];omega
  |tx hm=>rw[pB,if_neg nA,if_pos rfl,fF];simp[JC]
  |nd=>rw[pB,if_neg nA,if_neg nA,if_pos rfl,fF];simp[JC]
  |al=>rw[pB,if_neg nA,if_neg nA,if_neg nA,if_pos rfl,fF];simp[JC]
theorem Q8{l:List PW}(h:∀t∈l,VB t):JC l<=(cB l).length:=M8 (fun t a=>Br t (h t a))
theorem ZM{pre X l:List In}(he:l=pre++X){i:Nat}(h:pre.length+i<l.length)(h':i<X.length):l[pre.length+i]=X[i]:=by
 subst he;rw[List.getElem_append_right cA];congr 1;omega
theorem Lo{l:List In}{m:Nat}(h:m<l.length):ds (l.take (m+1))=ds (l.take m)+ID l[m].op:=by
 rw[List.take_add_one,List.getElem?_eq_getElem h,JH];simp[ds]
theorem KY(l:List In)(A:jA)(n c p q:Nat)(w:World)(hh:kX.pA w w.heap.size A l)(hn:l.length=n)(hl:n<=1000)(hp:p<l.length)(ho:l[p].op=3)(hq:p+q<n)
 (ht:∀i (h:p+i<l.length),1<=i->i<=q->JB l[p+i].op=true) (hlast:∀(h:p+q+1<l.length),JB l[p+q+1].op=false):
 fA 61 #[.slice A n c,aA p] w fun e w'=>e= .returned (aA ((p+q:Nat):Int))/\w=w':=by
 have y:=Zh hh;have z:=Zh hn;have B:=Zh ht;have C:=Zh hlast;obtain⟨b,o,rfl,K,j,_,_⟩:=TG hh hp;rw[ho] at j;have D:p<n:=cA;clear hh ht hlast ho hn;go_enter func61,ntmps61;go_wp2_with fail;clear j;go_loopw [1] (fun s wr=>∃(m:Nat),m<=q/\s = aA ((p+m:Nat):Int)/\Hid (w=wr)) (fun s _=>p+q-(intOf s).toNat)
 case atStart=>exact⟨0,by omega,rfl,Zh rfl⟩
 case round=>
  obtain⟨m,L,rfl,E⟩:=hrel;obtain rfl:=E;obtain⟨i,r⟩:=qA (p+m);have t:=Zh r;rw[r];have F:i<=n:=cA;by_cases G:m<q
  ·have k:i+1<l.length:=(uA z.out);have v:i+1<n:=cA;obtain⟨H,I,f,_,j,_,_⟩:=TG y k;injection f with f;injection f with e1 e2 _;subst e1;subst e2;have ht:=B (m+1) (uA t.out) cA cA;have e:l[p+(m+1)]'cA=l[i+1]:=(by congr 1;omega);rw[e] at ht;have g:=Zh ht;have x:Hid (p+(m+1)=i+1):=Zh cA;clear ht e r;generalize l[i+1]=d at j g;obtain⟨op,a,J⟩:=d;simp only at j g;go_wp2_with fail;refine zA (WJ op w) ?_;rw[g.out];go_wp2_with fail;go_roundw
   case rel=>exact⟨m+1,by omega,by rw[x.out];go_num,by first|exact Zh rfl|exact Zh trivial⟩
   case measure=>(simp[intOf];have:=t.out;omega)
  ·obtain rfl:m=q:=cA
   have u:Hid (p+m=i):=t;by_cases v:i+1<n
   ·have k:i+1<l.length:=(uA z.out);obtain⟨H,I,f,_,j,_,_⟩:=TG y k;injection f with f;injection f with e1 e2 _;subst e1;subst e2;have ht:=C (uA t.out);have e:l[p+m+1]'cA=l[i+1]:=(by congr 1;omega);rw[e] at ht;have g:=Zh ht;clear ht e r;generalize l[i+1]=d at j g;obtain⟨op,a,J⟩:=d;simp only at j g;go_wp2_with fail;refine zA (WJ op w) ?_;rw[g.out];go_wp2_with fail;go_ret;exact⟨by first|(rw[u.out];rfl)|(rw[show((p:Int)+(m:Int))=(i:Int) by have:=u.out;omega];rfl),rfl⟩
   ·clear r;go_wp2_with fail;go_ret;exact⟨by first|(rw[u.out];rfl)|(rw[show((p:Int)+(m:Int))=(i:Int) by have:=u.out;omega];rfl),rfl⟩
theorem Ch(l:List In)(A:jA)(n c p:Nat)(L:List In)(w:World)(hh:kX.pA w w.heap.size A l)(hn:l.length=n)(hl:n<=1000)(ho:∀(h:p<l.length),l[p].op=1)(hpl:p+L.length<=n)(hL:1<=L.length)
 (hX:∀i (h:p+i<l.length) (h':i<L.length),l[p+i]=L[i]) (h0:ds L=0) (h1:∀i,1<=i->i<L.length->1<=ds (L.take i)):
 fA 61 #[.slice A n c,aA p] w fun e w'=>e= .returned (aA ((p+L.length-1:Nat):Int))/\w=w':=by
 have G:=Zh hh;have H:=Zh hn;have I:=Zh hX;have J:=Zh h0;have K:=Zh h1;obtain⟨N,y⟩:=qA L.length;have x:=Zh y;rw[y] at hpl hL;have M:p<n:=cA;have f:p<l.length:=cA;obtain⟨b,o,rfl,W,s,_,_⟩:=TG hh f;rw[ho f] at s;clear hh hn hX h0 h1 ho y;go_enter func61,ntmps61;go_wp2_with fail;clear s;go_loopw [5,6] (fun O B wr=>∃(m:Nat) (dp:Int),m<N/\B = aA ((p+m:Nat):Int)/\O = aA dp/\Hid (dp=ds (L.take m))/\Hid (w=wr)) (fun _ B _=>p+N-(intOf B).toNat)
 case atStart=>exact⟨0,0,by omega,rfl,rfl,Zh rfl,Zh rfl⟩
 case round=>
  obtain⟨m,dp,X,rfl,rfl,E,P⟩:=hrel;obtain rfl:=P;obtain⟨i,C⟩:=qA (p+m);have t:=Zh C;rw[C];have Q:i<n:=cA;have D:i<l.length:=(uA H.out);have u:m<L.length:=(uA x.out);have v:=IZ (L.take m);rw[List.length_take,<-E.out] at v;have R:-1000<=dp:=cA;have S:dp<=1000:=cA;obtain⟨Y,o',j,_,s,_,_⟩:=TG G D;injection j with j;injection j with e1 e2 _;subst e1;subst e2;have e:l[i]=L[m]:=by
   have:=I m (uA t.out) u;rw[<-this];congr 1;omega
  have k:Hid (ds (L.take (m+1))=dp+ID l[i].op):=Zh (by rw[Lo u,E.out,e]);have q:Hid (p+(m+1)=i+1):=Zh cA;clear e C v;generalize l[i]=d at s k;obtain⟨op,a,bb⟩:=d;simp only at s k;by_cases T:m+1=N
  ·have Z:Hid (dp+ID op=0):=Zh (by
    rw[<-k.out,List.take_of_length_le (uA x.out)];exact J)
   have r:Hid (p+L.length-1=i):=Zh (by have:=x.out;have:=t.out;omega);by_cases h1:op=1
   ·subst h1;have z:dp+1=0:=(by have:=Z.out;simpa[ID] using this);obtain rfl:dp = -1:=cA
    clear z;go_wp2_with fail;go_ret;exact⟨by first|(rw[r.out];rfl)|(rw[show((p:Int)+(m:Int))=(i:Int) by have:=r.out;omega];rfl),rfl⟩
   ·have U:=int_ne h1;by_cases g:op=2
    ·subst g;have z:dp + -1=0:=(by have:=Z.out;simpa[ID] using this);obtain rfl:dp=1:=cA
     clear z;go_wp2_with fail;go_ret;exact⟨by first|(rw[r.out];rfl)|(rw[show((p:Int)+(m:Int))=(i:Int) by have:=r.out;omega];rfl),rfl⟩
    ·have V:=int_ne g;have z:dp+0=0:=(by have:=Z.out;simpa[ID,h1,g] using this);obtain rfl:dp=0:=cA
     clear z;go_wp2_with fail;go_ret;exact⟨by first|(rw[r.out];rfl)|(rw[show((p:Int)+(m:Int))=(i:Int) by have:=r.out;omega];rfl),rfl⟩
  ·have Z:Hid (1<=dp+ID op):=Zh (by
    rw[<-k.out];exact K (m+1) cA (uA x.out))
   by_cases h1:op=1
   ·subst h1;have z:1<=dp+1:=(by have:=Z.out;simpa[ID] using this);have F:(dp+1==0)=false:=AA;go_wp2_with fail;go_roundw
    case rel=>exact⟨m+1,dp+1,by omega,by rw[q.out];go_num,by first|rfl|go_num,Zh (by rw[k.out];rfl),by first|exact Zh rfl|exact Zh trivial⟩
    case measure=>(simp[intOf];have:=t.out;omega)
   ·have U:=int_ne h1;by_cases g:op=2
    ·subst g;have z:1<=dp + -1:=(by have:=Z.out;simpa[ID] using this);have F:(dp-1==0)=false:=AA;go_wp2_with fail;go_roundw
     case rel=>exact⟨m+1,dp-1,by omega,by rw[q.out];go_num,by first|rfl|go_num,Zh (by rw[k.out];rfl),by first|exact Zh rfl|exact Zh trivial⟩
     case measure=>(simp[intOf];have:=t.out;omega)
    ·have V:=int_ne g;have z:1<=dp+0:=(by have:=Z.out;simpa[ID,h1,g] using this);have F:(dp==0)=false:=AA;go_wp2_with fail;go_roundw
     case rel=>exact⟨m+1,dp,by omega,by rw[q.out];go_num,by first|rfl|go_num,Zh (by rw[k.out];simp[ID,h1,g]),by first|exact Zh rfl|exact Zh trivial⟩
     case measure=>(simp[intOf];have:=t.out;omega)
theorem Hr:(prog.info? 175).map (fun i=>(i.zero,i.size,i.bytes))=some (some (.agg #[aA 0,tA,tA,tA,vA,vA]),6,104):=by kernel_rfl
theorem Ir:(prog.info? 117).map (fun i=>(i.zero,i.size,i.bytes))=some (some (.agg #[aA 0,tA,tA,tA,vA,vA]),6,104):=by kernel_rfl
def WV.cells(a:WV):List Value:=[aA a.kind,bA a.tag,bA a.key,bA a.txt,.slice a.sa.A a.sa.n a.sa.c,.slice a.sk.A a.sk.n a.sk.c]
def kW:Kind prog WV where
 t:=97
 e:=175
 size:=6
 bytes:=104
 z:=.agg #[aA 0,tA,tA,tA,vA,vA]
 cs:=WV.cells
 ht:=underlying97
 info:=VG Hr
 QG:=rfl
 wF:=by decide
 RG:=by decide
 len:=fun _=>rfl
 one:=fun a u hu=>by simp[WV.cells] at hu;rcases hu with rfl|rfl|rfl|rfl|rfl|rfl<;>rfl
def kQ:Kind prog WV where
 t:=80
 e:=117
 size:=6
 bytes:=104
 z:=.agg #[aA 0,tA,tA,tA,vA,vA]
 cs:=WV.cells
 ht:=underlying80
 info:=VG Ir
 QG:=rfl
 wF:=by decide
 RG:=by decide
 len:=fun _=>rfl
 one:=fun a u hu=>by simp[WV.cells] at hu;rcases hu with rfl|rfl|rfl|rfl|rfl|rfl<;>rfl
theorem pT{w:World}{B:Nat}{A:jA}{l:List WV}(h:kW.pA w B A l){k:Nat}(hk:k<l.length):
 ∃b o,A=some (dA b o)/\b<B/\w.cell? ⟨b,o+k*6,none⟩=some (aA l[k].kind)/\w.cell? ⟨b,o+k*6+1,none⟩=some (bA l[k].tag)/\w.cell? ⟨b,o+k*6+2,none⟩=some (bA l[k].key)/\
  w.cell? ⟨b,o+k*6+3,none⟩=some (bA l[k].txt)/\w.cell? ⟨b,o+k*6+4,none⟩=some (.slice l[k].sa.A l[k].sa.n l[k].sa.c)/\w.cell? ⟨b,o+k*6+5,none⟩=some (.slice l[k].sk.A l[k].sk.n l[k].sk.c):=by
 obtain⟨b,o,rfl,c,a⟩:=h.at hk;exact⟨b,o,rfl,c,a 0 _ rfl,a 1 _ rfl,a 2 _ rfl,a 3 _ rfl,a 4 _ rfl,a 5 _ rfl⟩
theorem qT{w:World}{B:Nat}{A:jA}{l:List WV}(h:kQ.pA w B A l){k:Nat}(hk:k<l.length):
 ∃b o,A=some (dA b o)/\b<B/\w.cell? ⟨b,o+k*6,none⟩=some (aA l[k].kind)/\w.cell? ⟨b,o+k*6+1,none⟩=some (bA l[k].tag)/\w.cell? ⟨b,o+k*6+2,none⟩=some (bA l[k].key)/\
  w.cell? ⟨b,o+k*6+3,none⟩=some (bA l[k].txt)/\w.cell? ⟨b,o+k*6+4,none⟩=some (.slice l[k].sa.A l[k].sa.n l[k].sa.c)/\w.cell? ⟨b,o+k*6+5,none⟩=some (.slice l[k].sk.A l[k].sk.n l[k].sk.c):=by
 obtain⟨b,o,rfl,c,a⟩:=h.at hk;exact⟨b,o,rfl,c,a 0 _ rfl,a 1 _ rfl,a 2 _ rfl,a 3 _ rfl,a 4 _ rfl,a 5 _ rfl⟩
inductive MC(K:Kind prog WV)(w:World)(C:Nat):WV->Prop
 |mk {kind:Int} {tag key txt:wA} {sa sk:Sv} {attrs:List P3.At} {kids:List WV} (al:attrs.length=sa.n) (ac:sa.n<=sa.c) (az:sa.A=none->sa.c=0) (ah:kA.pA w C sa.A attrs)
  (kl:kids.length=sk.n) (kc:sk.n<=sk.c) (kz:sk.A=none->sk.c=0) (kh:K.pA w C sk.A kids) (ks:∀k∈kids,MC K w C k):MC K w C (.mk kind tag key txt sa attrs sk kids)
section
variable{K:Kind prog WV}{w w':World}{C D:Nat}{t:WV}
theorem MC.al(h:MC K w C t):t.attrs.length=t.sa.n:=by cases h;assumption
theorem MC.ac(h:MC K w C t):t.sa.n<=t.sa.c:=by cases h;assumption
theorem MC.az(h:MC K w C t):t.sa.A=none->t.sa.c=0:=by cases h;assumption
theorem MC.ah(h:MC K w C t):kA.pA w C t.sa.A t.attrs:=by cases h;assumption
theorem MC.kl(h:MC K w C t):t.kids.length=t.sk.n:=by cases h;assumption
theorem MC.kc(h:MC K w C t):t.sk.n<=t.sk.c:=by cases h;assumption
theorem MC.kz(h:MC K w C t):t.sk.A=none->t.sk.c=0:=by cases h;assumption
theorem MC.kh(h:MC K w C t):K.pA w C t.sk.A t.kids:=by cases h;assumption
theorem MC.ks(h:MC K w C t):∀k∈t.kids,MC K w C k:=by cases h;assumption
theorem MC.qC(h:MC K w C t)(hb:Below D w w')(hC:C<=D):MC K w' C t:=by
 induction t using WV.ind with
 |h kind tag key txt sa attrs sk kids ih=>exact⟨h.al,h.ac,h.az,h.ah.below hb hC,h.kl,h.kc,h.kz,h.kh.below hb hC,fun k a=>ih k a (h.ks k a)⟩
theorem MC.more(h:MC K w C t)(hC:C<=D):MC K w D t:=by
 induction t using WV.ind with
 |h kind tag key txt sa attrs sk kids ih=>exact⟨h.al,h.ac,h.az,h.ah.more hC,h.kl,h.kc,h.kz,h.kh.more hC,fun k a=>ih k a (h.ks k a)⟩
theorem MC.on(h:MC K w w.heap.size t)(hb:eA w w'):MC K w' w'.heap.size t:=(h.qC hb Zl).more hb.size
end
inductive qB(K:Kind prog WV)(w:World)(Q:Nat->Prop):WV->Prop
 |mk {kind:Int} {tag key txt:wA} {sa sk:Sv} {attrs:List P3.At} {kids:List WV} (at_:nB w sa attrs) (own:K.Own w 0 (.slice sk.A sk.n sk.c) kids) (q:∀b,(Value.slice sk.A sk.n sk.c).ownBlock=some b->Q b) (ks:∀k∈kids,qB K w Q k):qB K w Q (.mk kind tag key txt sa attrs sk kids)
section
variable{K:Kind prog WV}{w w':World}{Q R S:Nat->Prop}{t:WV}
theorem qB.at_(h:qB K w Q t):nB w t.sa t.attrs:=by cases h;assumption
theorem qB.own(h:qB K w Q t):K.Own w 0 (.slice t.sk.A t.sk.n t.sk.c) t.kids:=by cases h;assumption
theorem qB.q(h:qB K w Q t):∀b,(Value.slice t.sk.A t.sk.n t.sk.c).ownBlock=some b->Q b:=by cases h;assumption
theorem qB.ks(h:qB K w Q t):∀k∈t.kids,qB K w Q k:=by cases h;assumption
theorem qB.mono(h:qB K w Q t)(hq:∀b,b<w.heap.size->Q b->R b):qB K w R t:=by
 induction t using WV.ind with
 |h kind tag key txt sa attrs sk kids ih=>exact⟨h.at_,h.own,fun b a=>hq b (h.own.lt a).2 (h.q b a),fun k c=>ih k c (h.ks k c)⟩
theorem qB.but(h:qB K w Q t)(hb:gA S w w')(hS:∀b,Q b->¬S b)(hA:qD w S):qB K w' Q t:=by
 induction t using WV.ind with
 |h kind tag key txt sa attrs sk kids ih=>exact⟨h.at_.but hb hA,h.own.but hb (fun b e=>hS b (h.q b e)),h.q,fun k a=>ih k a (h.ks k a)⟩
theorem qB.qC(h:qB K w Q t)(hb:eA w w'):qB K w' Q t:=h.but (gA.tB hb (fun _=>False)) (fun _ _ h=>h) (qD.none w)
theorem qB.ok(h:qB K w Q t):MC K w w.heap.size t:=by
 induction t using WV.ind with
 |h kind tag key txt sa attrs sk kids ih=>
  have a:=h.at_;have b:=h.own;simp only[WV.sa,WV.attrs] at a;simp only[WV.sk,WV.kids] at b;obtain⟨A,n,c,f,g,i,m,j,l⟩:=b.slice;injection f with v1 v2 v3;subst v1;subst v2;subst v3;exact⟨a.len,a.cap,a.nil,a.holds,g,i,fun e=>j e,l,fun k d=>ih k d (h.ks k d)⟩
end
theorem J1{S:Nat->Prop}{w:World}{e:TypeId}(he:e≠119)(h:∀b,S b->∃cur,w.heap[b]? = some (.cells cur e (0,0))):qD w S:=fun k cur i a d=>by
 obtain⟨c,f⟩:=h k a;exact RA d f (fun g=>he g.symm) rfl
theorem FK{K:Kind prog WV}(he:K.e≠119){w5 w7:World}{o:Obj}{D:Nat}{A A7:jA}{n c n7 c7:Nat}{l:List WV}{k:WV}{Q:Nat->Prop}(own:K.Own w5 D (.slice A n c) l)
 (ks:∀k∈l,qB K w5 (fun b=>Q b/\(Value.slice A n c).ownBlock≠some b) k) (hk:qB K w5 (fun b=>Q b/\(Value.slice A n c).ownBlock≠some b) k) (hg:(w5.alloc o).grownBy w7 (Value.slice A n c).ownBlock)
 (hat:(Value.slice A7 n7 c7).ownBlock=(Value.slice A n c).ownBlock\/(Value.slice A7 n7 c7).ownBlock=some (w5.alloc o).heap.size):
 (∀t∈l++[k],qB K w7 (fun b=>Q b/\(Value.slice A7 n7 c7).ownBlock≠some b) t)/\gA (fun b=>(Value.slice A n c).ownBlock=some b) w5 w7:=by
 have f:gA (fun b=>(Value.slice A n c).ownBlock=some b) w5 w7:=(gA.alloc (gA.refl _ _) _).trans (gA.sG (S:=fun i=>(Value.slice A n c).ownBlock=some i) hg (fun i g _=>g)) (fun _ _ h=>h);have j:∀b,(Value.slice A n c).ownBlock=some b->∃cur,w5.heap[b]? = some (.cells cur K.e (0,0)):=fun b e=>own.ty e
 have a:∀k:WV,qB K w5 (fun b=>Q b/\(Value.slice A n c).ownBlock≠some b) k->qB K w7 (fun b=>Q b/\(Value.slice A7 n7 c7).ownBlock≠some b) k:=by
  intro k h;have m:qB K w5 (fun b=>(Q b/\(Value.slice A n c).ownBlock≠some b)/\b<w5.heap.size) k:=h.mono fun b p d=>⟨d,p⟩
  refine(m.but f (fun b d q=>d.1.2 q) (J1 he j)).mono fun b _ d=>⟨d.1.1,fun e=>?_⟩
  rcases hat with h2|h2
  ·exact d.1.2 (h2▸e)
  ·rw[h2] at e;injection e with e;have:=d.2;simp at e;omega
 refine⟨fun t r=>?_,f⟩;rcases List.mem_append.1 r with h|h
 ·exact a t (ks t h)
 ·rw[List.mem_singleton.1 h];exact a _ hk
def Wv(K:Kind prog WV)(w:World)(l:List PW)(e:Ending)(w':World):Prop:=∃(A:jA) (n c:Nat) (ts:List WV),e= .returned (.slice A n c)/\oA ts=l/\K.Own w' w.heap.size (.slice A n c) ts/\(∀t∈ts,qB K w' (fun b=>w.heap.size<=b/\(Value.slice A n c).ownBlock≠some b) t)/\eA w w'
theorem Mo{K:Kind prog WV}{w:World}{D:Nat}{A:jA}{n c:Nat}{l:List WV}(h:K.Own w D (.slice A n c) l):l.length=n/\n<=c/\c<=maxLen/\(A=none->c=0)/\K.pA w w.heap.size A l:=by
 obtain⟨i,j,k,a,b,d,e,f,g⟩:=h.slice;injection a with h1 h2 h3;subst h1;subst h2;subst h3;exact⟨b,d,e,f,g⟩
end P14
open Go.RowKit
abbrev mC(t:P14.WV):Array Value:=#[.int .i64 t.kind,.string t.tag,.string t.key,.string t.txt,.slice t.sa.A t.sa.n t.sa.c,.slice t.sk.A t.sk.n t.sk.c]
namespace P16
open Go.RowKit Kd P4 P5 P11 P12 P13 P14
structure Ol where
 tag:wA
 key:wA
def EC(w:PW)(o:Ol)(first:Bool):Bool:=
 if w.kind=1 then bq o.tag w.tag&&bq o.key w.key&&(first || !w.key.toList.isEmpty)
 else if w.kind=2 then first&&o.tag.toList.isEmpty
 else if w.kind=3 then first
 else false
def ZA(w:PW)(old:List Ol)(left:List Bool):Nat->Int×Bool
 |0=>(-1,true)
 |k+1=>if 0<=(ZA w old left k).1 then ZA w old left k else match old[k]?,left[k]? with
  |some o,some true=>(if EC w o (ZA w old left k).2 then(k:Int) else -1,false)
  |_,_=>ZA w old left k
def kD(left:List Bool):Nat->List Int
 |0=>[]
 |k+1=>match left[k]? with
  |some true=>kD left k++[(k:Int)]
  |_=>kD left k
structure Ms where
 left:List Bool
 take:List Int
 kept:List Int
def AE(left:List Bool)(at_:Int):List Bool:=if 0<=at_ then left.set at_.toNat false else left
def pF(old:List Ol)(s:Ms)(w:PW):Ms:=
 if w.kind=4 then⟨List.replicate old.length false,s.take++[(ZA w old s.left old.length).1],s.kept++kD (AE s.left (ZA w old s.left old.length).1) old.length⟩
 else⟨AE s.left (ZA w old s.left old.length).1,s.take++[(ZA w old s.left old.length).1],s.kept⟩
def foldM(old:List Ol)(ws:List PW):Ms:=ws.foldl (pF old) ⟨List.replicate old.length true,[],[]⟩
theorem pP{old:List Ol}{ws:List PW}{j:Nat}(h:j<ws.length):foldM old (ws.take (j+1))=pF old (foldM old (ws.take j)) ws[j]:=by
 unfold foldM;rw[List.take_add_one,List.getElem?_eq_getElem h,List.foldl_append];rfl
theorem mS(w:PW)(old:List Ol)(left:List Bool):∀k,-1<=(ZA w old left k).1/\(ZA w old left k).1<(k:Int)/\((ZA w old left k).1<0->(ZA w old left k).1 = -1)
 |0=>by simp[ZA]
 |k+1=>by
  have ih:=mS w old left k;rw[ZA];split
  ·omega
  ·split
   ·simp only;split<;>omega
   ·omega
theorem gP{w:PW}{old:List Ol}{left:List Bool}{k:Nat}(h:0<=(ZA w old left k).1):∀j,ZA w old left (k+j)=ZA w old left k
 |0=>rfl
 |j+1=>by
  have ih:=gP h j;rw[<-Nat.add_assoc,ZA,if_pos (by rw[ih];exact h),ih]
theorem ZW{w:PW}{old:List Ol}{left:List Bool}{k:Nat}(h:¬0<=(ZA w old left k).1)(hl:left[k]? = some false):ZA w old left (k+1)=ZA w old left k:=by
 rw[ZA,if_neg h,hl];split
 ·rename_i h1 h2;cases h2
 ·rfl
theorem xS{w:PW}{old:List Ol}{left:List Bool}{k:Nat}{o:Ol}(h:¬0<=(ZA w old left k).1)(ho:old[k]? = some o)(hl:left[k]? = some true):ZA w old left (k+1)=(if EC w o (ZA w old left k).2 then(k:Int) else -1,false):=by
 rw[ZA,if_neg h,ho,hl]
theorem FT{left:List Bool}{k:Nat}(h:left[k]? = some true):kD left (k+1)=kD left k++[(k:Int)]:=by rw[kD,h]
theorem vU{left:List Bool}{k:Nat}(h:left[k]? = some false):kD left (k+1)=kD left k:=by rw[kD,h]
theorem xM(left:List Bool):∀k,(kD left k).length<=k
 |0=>by simp[kD]
 |k+1=>by
  have:=xM left k;rw[kD];split
  ·simp;omega
  ·omega
theorem kY(left:List Bool)(a:Int):(AE left a).length=left.length:=by unfold AE;split<;>simp
theorem Ng{old:List Ol}{s:Ms}{w:PW}(h:s.left.length=old.length):(pF old s w).left.length=old.length:=by
 unfold pF;split
 ·simp
 ·rw[kY,h]
theorem lY{old:List Ol}:∀{ws:List PW} {s:Ms},s.left.length=old.length->(ws.foldl (pF old) s).left.length=old.length
 |[],_,h=>h
 |w:: ws,s,h=>by
  rw[List.foldl_cons];exact lY (ws:=ws) (s:=pF old s w) (Ng h)
theorem aX(old:List Ol)(ws:List PW):(foldM old ws).left.length=old.length:=lY DA
theorem Og{old:List Ol}{s:Ms}{w:PW}:(pF old s w).take.length=s.take.length+1/\(pF old s w).kept.length<=s.kept.length+old.length:=by
 unfold pF;split
 ·have:=xM (AE s.left (ZA w old s.left old.length).1) old.length;simp;omega
 ·simp
theorem mY{old:List Ol}:∀{ws:List PW} {s:Ms},(ws.foldl (pF old) s).take.length=s.take.length+ws.length/\(ws.foldl (pF old) s).kept.length<=s.kept.length+ws.length*old.length
 |[],s=>by simp
 |w:: ws,s=>by
  have h:=mY (old:=old) (ws:=ws) (s:=pF old s w);have h2:=Og (old:=old) (s:=s) (w:=w);rw[List.foldl_cons,List.length_cons,Nat.succ_mul];omega
theorem wN(old:List Ol)(ws:List PW):(foldM old ws).take.length=ws.length/\(foldM old ws).kept.length<=ws.length*old.length:=by
 have:=mY (old:=old) (ws:=ws) (s:=⟨List.replicate old.length true,[],[]⟩);unfold foldM;simpa using this
def WD(left:List Bool)(k:Nat):List Bool:=List.replicate k false++left.drop k
theorem uW(left:List Bool):WD left 0=left:=by simp[WD]
theorem bX{left:List Bool}{k:Nat}(h:k<=left.length):(WD left k).length=left.length:=by simp[WD];omega
theorem Pg{left:List Bool}{k:Nat}(h:k<left.length):(WD left k)[k]? = left[k]?:=by
 unfold WD;rw[List.getElem?_append_right DA,List.length_replicate,Nat.sub_self,List.getElem?_drop];rfl
theorem cX{left:List Bool}{k:Nat}(h:k<left.length):(WD left k).set k false=WD left (k+1):=by
 unfold WD;rw[List.set_append_right _ _ DA,List.length_replicate,Nat.sub_self,List.drop_eq_getElem_cons h,List.set_cons_zero,List.replicate_succ',List.append_assoc];rfl
theorem nY{left:List Bool}{k:Nat}(h:k<left.length)(hf:left[k]? = some false):WD left k=WD left (k+1):=by
 unfold WD;rw[List.drop_eq_getElem_cons h,List.replicate_succ',List.append_assoc];rw[List.getElem?_eq_getElem h] at hf;injection hf with hf;rw[hf];rfl
theorem dX(left:List Bool):WD left left.length=List.replicate left.length false:=by simp[WD]
theorem Lr:(prog.info? 194).map (fun i=>(i.zero,i.size,i.bytes))=some (some (.agg #[tA,tA]),2,32):=by kernel_rfl
theorem Mr:(prog.info? 122).map (fun i=>(i.zero,i.size,i.bytes))=some (some (.agg #[tA,tA]),2,32):=by kernel_rfl
theorem jb:(prog.info? 4).map (fun i=>(i.zero,i.size,i.bytes))=some (some (.bool false),1,1):=by kernel_rfl
def Ol.cells(o:Ol):List Value:=[bA o.tag,bA o.key]
def kO:Kind prog Ol where
 t:=172
 e:=194
 size:=2
 bytes:=32
 z:=.agg #[tA,tA]
 cs:=Ol.cells
 ht:=underlying172
 info:=VG Lr
 QG:=rfl
 wF:=by decide
 RG:=by decide
 len:=fun _=>rfl
 one:=fun a u hu=>by simp[Ol.cells] at hu;rcases hu with rfl|rfl<;>rfl
def kU:Kind prog Ol where
 t:=120
 e:=122
 size:=2
 bytes:=32
 z:=.agg #[tA,tA]
 cs:=Ol.cells
 ht:=underlying120
 info:=VG Mr
 QG:=rfl
 wF:=by decide
 RG:=by decide
 len:=fun _=>rfl
 one:=fun a u hu=>by simp[Ol.cells] at hu;rcases hu with rfl|rfl<;>rfl
def cE:Kind prog Bool where
 t:=157
 e:=4
 size:=1
 bytes:=1
 z:=.bool false
 cs:=fun c=>[.bool c]
 ht:=underlying157
 info:=VG jb
 QG:=rfl
 wF:=by decide
 RG:=by decide
 len:=fun _=>rfl
 one:=fun a u hu=>by simp at hu;subst hu;rfl
theorem Lh{w:World}{B:Nat}{A:jA}{l:List Ol}(h:kU.pA w B A l){k:Nat}(hk:k<l.length):
 ∃b o,A=some (dA b o)/\b<B/\w.cell? ⟨b,o+k*2,none⟩=some (bA l[k].tag)/\w.cell? ⟨b,o+k*2+1,none⟩=some (bA l[k].key):=by
 obtain⟨b,o,rfl,c,a⟩:=h.at hk;exact⟨b,o,rfl,c,a 0 _ rfl,a 1 _ rfl⟩
theorem JP{w:World}{B:Nat}{A:jA}{l:List Ol}(h:kO.pA w B A l){k:Nat}(hk:k<l.length):
 ∃b o,A=some (dA b o)/\b<B/\w.cell? ⟨b,o+k*2,none⟩=some (bA l[k].tag)/\w.cell? ⟨b,o+k*2+1,none⟩=some (bA l[k].key):=by
 obtain⟨b,o,rfl,c,a⟩:=h.at hk;exact⟨b,o,rfl,c,a 0 _ rfl,a 1 _ rfl⟩
theorem U2{P:Program}{α:Type}{K:Kind P α}{w:World}{B g n c:Nat}{l:List α}(h:K.Own w B (.slice (some (dA g 0)) n c) l){k:Nat}(hk:k<l.length)(a:α):
 K.Own (w.setCells g (k*K.size) (K.cs a)) B (.slice (some (dA g 0)) n c) (l.set k a):=by
 rcases h.form with⟨hv,_⟩|⟨g',c',cur,hv,_,hBg,hlt,hh,zC,cC,hcs,ht⟩
 ·cases hv
 injection hv with e1 e2 e3;injection e1 with e1;injection e1 with e1;subst e1;subst e2;subst e3;obtain⟨q,t,u,v⟩:=FH g (K.cs a) (k*K.size) w cur _ _ hh;have r:l.length*K.size<=c*K.size:=Nat.mul_le_mul_right _ zC;have x:(k+1)*K.size<=l.length*K.size:=Nat.mul_le_mul_right _ hk;have s:(k+1)*K.size=k*K.size+K.size:=(by rw[Nat.add_mul,Nat.one_mul]);refine Kind.wG DA hBg t zC cC (by rw[u];exact hcs) ?_;apply List.ext_getElem?;intro i;have b:=K.wF;rw[List.getElem?_take];by_cases p:i<l.length*K.size
 ·rw[if_pos p,Array.getElem?_toList,v i cA,K.len];have m:i/K.size*K.size+i % K.size=i:=(by rw[Nat.mul_comm];exact Nat.div_add_mod i K.size);have d:i % K.size<K.size:=Nat.mod_lt _ b;have e:i/K.size<l.length:=(by rw[Nat.div_lt_iff_lt_mul b];exact p);have o:=K.aK (l.set k a) (i/K.size) (by simpa using e) (i % K.size) d;rw[m] at o;rw[o,List.getElem_set];by_cases j:k=i/K.size
  ·subst j;rw[if_pos rfl,if_pos ⟨by omega,by omega⟩];congr 1;omega
  ·rw[if_neg j];have f:=K.aK l (i/K.size) e (i % K.size) d;rw[m] at f;rw[<-f,<-ht,List.getElem?_take,if_pos p,if_neg ?_,Array.getElem?_toList];rintro⟨y,z⟩;apply j;have A:k<=i/K.size:=(by rw[Nat.le_div_iff_mul_le b];exact y);have C:i/K.size<k+1:=(by rw[Nat.div_lt_iff_lt_mul b];omega);omega
 ·rw[if_neg p,List.getElem?_eq_none];rw[Kind.fH,List.length_set];omega
theorem eK{w:World}{B g n c:Nat}{l:List Bool}(h:cE.Own w B (.slice (some (dA g 0)) n c) l){k:Nat}(hk:k<l.length):
 w.cell? (dA g k)=some (.bool l[k])/\w.frozen? (dA g k)=false/\∀b,cE.Own (w.setCell (dA g k) (.bool b)) B (.slice (some (dA g 0)) n c) (l.set k b):=by
 refine⟨?_,?_,fun b=>?_⟩
 ·obtain⟨m,p,f,a,_,_,_,_,i⟩:=h.slice;injection a with h1 h2 h3;subst h1;subst h2;subst h3;obtain⟨b,o,d,_,j⟩:=i.at hk;injection d with d;injection d with e1 e2 _;subst e1;subst e2;have:=j 0 _ rfl;simpa[cE] using this
 ·rcases h.form with⟨a,_⟩|⟨g',f,cur,a,_,_,_,hh,_⟩
  ·cases a
  injection a with e1;injection e1 with e1;injection e1 with e1;subst e1;simp[World.frozen?,hh]
 ·have:=U2 h hk b;have e:k*cE.size=k:=Nat.mul_one k;rw[e] at this;exact this
theorem mH(w:World)(g k:Nat)(u:Value):gA (fun i=>i=g) w (w.setCell (dA g k) u):=gA.setCell (S:=fun i=>i=g) (p:=(dA g k)) (gA.refl _ _) (fun _=>rfl) u
theorem rT:∀M:Nat,cE.cells (List.replicate M false)=List.replicate M (.bool false)
 |0=>rfl
 |M+1=>by
  have h:=rT M;simp only[Kind.cells,List.replicate_succ,List.flatMap_cons] at h|-;rw[h];rfl
theorem Mf(W:World)(B M:Nat)(hB:B<=W.heap.size)(hM:M<=100000):
 ∃w',(Instr.makeSlice 157 (aA (M:Int)) (aA (M:Int))).run prog W= .ok (.slice (some ⟨W.heap.size,0,none⟩) M M) w'/\
  cE.Own w' B (.slice (some ⟨W.heap.size,0,none⟩) M M) (List.replicate M false)/\W.grownBy w' none:=by
 obtain⟨f,g,a,b,c⟩:=cE.info;have i:cE.bytes=1:=rfl;obtain⟨w',j,d,k⟩:=run_make_full (P:=prog) W B 157 4 f cE.z cE.size underlying157 g a b .i64 .i64 M (by rw[c,i];omega) wD hB;refine⟨w',j,?_,k⟩;have e:(madeCells cE.z.cells (M*cE.size)).toList=cE.cells (List.replicate M false):=by
  have l:M*cE.size=M:=Nat.mul_one M;have m:cE.z.cells=#[.bool false]:=rfl;rw[l,m,toList_madeCells_one,rT]
 rw[e] at d;show w'.ownsRow B cE.e cE.size _ (List.replicate M false).length _;rw[List.length_replicate];exact d
theorem wW{w:World}{v u v':Value}{o:Obj}{B:Nat}{l:List Int}(ha:gE v u)(hu:kI.Own w B u l)(hat:v'.ownBlock=v.ownBlock\/v'.ownBlock=some (w.alloc o).heap.size):gE v' u:=by
 intro g a e;rcases hat with h|h
 ·exact ha g (h▸a) e
 ·rw[h] at a;injection a with a;have:=(hu.lt e).2;simp at a;omega
theorem nS{w:PW}{old:List Ol}{left:List Bool}:∀m,0<=(ZA w old left m).1->∃(j:Nat) (o:Ol) (f:Bool),j<m/\(ZA w old left m).1=(j:Int)/\old[j]? = some o/\left[j]? = some true/\EC w o f=true
 |0,h=>by simp[ZA] at h
 |m+1,h=>by
  by_cases h0:0<=(ZA w old left m).1
  ·have e:ZA w old left (m+1)=ZA w old left m:=(by rw[ZA,if_pos h0]);obtain⟨j,o,f,h1,h2,h3⟩:=nS m h0;exact⟨j,o,f,by omega,by rw[e];exact h2,h3⟩
  ·rw[ZA,if_neg h0] at h|-;split
   ·rename_i o ho hl;rw[ho,hl] at h;simp only at h|-;by_cases ht:EC w o (ZA w old left m).2=true
    ·exact⟨m,o,_,by omega,by rw[if_pos ht],ho,hl,ht⟩
    ·rw[if_neg ht] at h;omega
   ·rename_i hx;exfalso;revert h;split
    ·rename_i o ho hl;exact absurd hl (hx o ho)
    ·exact h0
theorem JZ{old:List Ol}:∀{ws:List PW} {s:Ms},∃r,(ws.foldl (pF old) s).take=s.take++r
 |[],s=>⟨[],by simp⟩
 |w:: ws,s=>by
  obtain⟨r,hr⟩:=JZ (old:=old) (ws:=ws) (s:=pF old s w);have e:(pF old s w).take=s.take++[(ZA w old s.left old.length).1]:=by
   unfold pF;split<;>rfl
  exact⟨(ZA w old s.left old.length).1:: r,by rw[List.foldl_cons,hr,e];simp⟩
theorem Rj(old:List Ol)(ws:List PW){i:Nat}(hi:i<=ws.length):(foldM old ws).take.take i=(foldM old (ws.take i)).take:=by
 have a:=(wN old (ws.take i)).1;rw[List.length_take,Nat.min_eq_left hi] at a;have e:foldM old ws=(ws.drop i).foldl (pF old) (foldM old (ws.take i)):=by
  unfold foldM;rw[<-List.foldl_append,List.take_append_drop]
 obtain⟨r,b⟩:=JZ (old:=old) (ws:=ws.drop i) (s:=foldM old (ws.take i));rw[e,b];exact List.take_left' a
theorem take_at{old:List Ol}{ws:List PW}{i:Nat}(hi:i<ws.length):(foldM old ws).take[i]? = some (ZA ws[i] old (foldM old (ws.take i)).left old.length).1:=by
 have b:=(wN old (ws.take i)).1;rw[List.length_take,Nat.min_eq_left cA] at b;have a:=Rj old ws (i:=i+1) cA;rw[pP hi] at a;have e:(pF old (foldM old (ws.take i)) ws[i]).take=(foldM old (ws.take i)).take++[(ZA ws[i] old (foldM old (ws.take i)).left old.length).1]:=by
  unfold pF;split<;>rfl
 rw[e] at a;have c:=congrArg (fun l=>l[i]?) a;rw[List.getElem?_take,if_pos cA] at c;rw[c,List.getElem?_append_right cA,b,Nat.sub_self];rfl
theorem MZ{l:List In}:∀{n k:Nat},k<n->aD l n=0->aD l k=0/\VD l k=0
 |0,_,h,_=>by omega
 |n+1,k,h,hf=>by
  rw[aD] at hf;by_cases h0:aD l n=0
  ·rw[if_pos h0] at hf;by_cases e:k=n
   ·subst e;exact⟨h0,hf⟩
   ·exact MZ cA h0
  ·rw[if_neg h0] at hf;exact absurd hf h0
end P16
namespace P11
open Go.RowKit Kd P4
def AO(op:Int):Bool:=op==5 || op==6
def qs:Prop:=∀(i:In) (w:World),i.a.size<=100000->i.b.size<=100000->fA 125 #[.agg #[aA i.op,bA i.a,bA i.b]] w fun e w'=>e= .returned (.bool (gB i))/\eA w w'
def Xq:Prop:=∀(op:Int) (w:World),fA 171 #[aA op] w fun e w'=>e= .returned (.bool (AO op))/\eA w w'
theorem VE{a w w5:World}(b5:eA w w5)(h:eA a w):eA a w5:=h.trans (b5.mono h.size)
theorem UG{B:Nat}{a w:World}(h:Below B a w)(n:Nat):Below B a (w.drewN n):=⟨h.os,h.tape,h.output,h.size,h.block⟩
theorem WC{B:Nat}{a w:World}(h:Below B a w):Below B a w.drew:=⟨h.os,h.tape,h.output,h.size,h.block⟩
theorem Hp(s:wA)(w:World){r:Bool}(h:P1.NC s.data.toList=r)(hs:s.size<=maxLen):fA 115 #[bA s] w fun e w'=>e= .returned (.bool r)/\w=w':=by
 subst h;exact P1.ZN s w hs
theorem oa(s:wA)(w:World){r:Bool}(h:P1.YB s.data.toList=r)(hs:s.size<=maxLen):fA 114 #[bA s] w fun e w'=>e= .returned (.bool r)/\w=w':=by
 subst h;exact P1.mZ s w hs
theorem MI(s:wA)(w:World){r:Bool}(h:P1.fC s.data.toList=r):fA 78 #[bA s] w fun e w'=>e= .returned (.bool r)/\w=w':=by
 subst h;exact P1.SP s w
theorem NU:Xq:=by
 intro a w;cases h1:(a==5)<;>cases h3:(a==6)<;>
  (have b:Hid (AO a=_):=Zh (by unfold AO;rw[h1,h3])
   go_enter func171,ntmps171;go_wp2_with fail;go_ret;exact⟨by rw[b.out];rfl,Ze⟩)
theorem xb:qs:=by
 intro i w v A;obtain⟨d,a,b⟩:=i;have v:a.size<=maxLen:=Nat.le_trans v wD;have A:b.size<=maxLen:=Nat.le_trans A wD;have j:Hid (eA w (w.alloc (.cells #[aA d,bA a,bA b] 110))):=Zh (Zb _ _);have y:Hid (XB (w.alloc (.cells #[aA d,bA a,bA b] 110)) w.heap.size ⟨d,a,b⟩):=Zh (XB.new w ⟨d,a,b⟩);obtain⟨m,p⟩:=qA (P1.NC a.data.toList);obtain⟨q,r⟩:=qA (P1.fC a.data.toList);obtain⟨z,s⟩:=qA (P1.YB a.data.toList);obtain⟨k,t⟩:=qA (P1.YB b.data.toList);have g:Hid (gB ⟨d,a,b⟩=if d=1 then m && !q&&k else if d=3 then q&&k else if d=4 then z&&b.toList.isEmpty else if d=5\/d=6 then m&&k else if d=2\/d=7\/d=8 then a.toList.isEmpty&&b.toList.isEmpty else false):=Zh (by unfold gB;simp only[p,r,s,t]);have l:Hid (∀f,fA 115 #[bA a] f fun e w'=>e= .returned (.bool m)/\f=w'):=Zh (fun f=>Hp a f p v);have n:Hid (∀f,fA 78 #[bA a] f fun e w'=>e= .returned (.bool q)/\f=w'):=Zh (fun f=>MI a f r);have u:Hid (∀f,fA 114 #[bA a] f fun e w'=>e= .returned (.bool z)/\f=w'):=Zh (fun f=>oa a f s v);have o:Hid (∀f,fA 114 #[bA b] f fun e w'=>e= .returned (.bool k)/\f=w'):=Zh (fun f=>oa b f t A);clear p r s t;show fA 125 #[.agg #[aA d,bA a,bA b]] w _;go_enter func125,ntmps125;go_upto_region 1 with fail;generalize w.alloc (.cells #[aA d,bA a,bA b] 110)=W at j y|-;have J:=y.c0;have K:=y.c1;have L:=y.c2;simp only at J K L;by_cases B:d=1
 ·subst B;have c:Hid (gB ⟨1,a,b⟩=(m && !q&&k)):=Zh (by rw[g.out,if_pos rfl]);clear g;cases m
  ·go_wp2_with fail;refine zA (l _) ?_;go_wp2_with fail;go_ret;exact⟨by rw[c.out];rfl,j⟩
  cases q
  ·cases k<;>(go_wp2_with fail;refine zA (l _) ?_;go_wp2_with fail;refine zA (n _) ?_;go_wp2_with fail;refine zA (o _) ?_;go_wp2_with fail;go_ret;exact⟨by rw[c.out];rfl,j⟩)
  ·go_wp2_with fail;refine zA (l _) ?_;go_wp2_with fail;refine zA (n _) ?_;go_wp2_with fail;go_ret;exact⟨by rw[c.out];rfl,j⟩
 by_cases C:d=3
 ·subst C;have c:Hid (gB ⟨3,a,b⟩=(q&&k)):=Zh (by rw[g.out,if_neg nA,if_pos rfl]);clear g;cases q
  ·go_wp2_with fail;refine zA (n _) ?_;go_wp2_with fail;go_ret;exact⟨by rw[c.out];rfl,j⟩
  ·cases k<;>(go_wp2_with fail;refine zA (n _) ?_;go_wp2_with fail;refine zA (o _) ?_;go_wp2_with fail;go_ret;exact⟨by rw[c.out];rfl,j⟩)
 by_cases D:d=4
 ·subst D;have c:Hid (gB ⟨4,a,b⟩=(z&&b.toList.isEmpty)):=Zh (by rw[g.out,if_neg nA,if_neg nA,if_pos rfl]);clear g;cases bE:b.toList.isEmpty<;>rw[bE] at c<;>cases z<;>
   (go_wp2_with fail;refine zA (u _) ?_;go_wp2_with fail;go_ret;exact⟨by rw[c.out];rfl,j⟩)
 by_cases E:d=5
 ·subst E;have c:Hid (gB ⟨5,a,b⟩=(m&&k)):=Zh (by rw[g.out,if_neg nA,if_neg nA,if_neg nA,if_pos nA]);clear g;cases m
  ·go_wp2_with fail;refine zA (l _) ?_;go_wp2_with fail;go_ret;exact⟨by rw[c.out];rfl,j⟩
  ·cases k<;>(go_wp2_with fail;refine zA (l _) ?_;go_wp2_with fail;refine zA (o _) ?_;go_wp2_with fail;go_ret;exact⟨by rw[c.out];rfl,j⟩)
 by_cases F:d=6
 ·subst F;have c:Hid (gB ⟨6,a,b⟩=(m&&k)):=Zh (by rw[g.out,if_neg nA,if_neg nA,if_neg nA,if_pos nA]);clear g;cases m
  ·go_wp2_with fail;refine zA (l _) ?_;go_wp2_with fail;go_ret;exact⟨by rw[c.out];rfl,j⟩
  ·cases k<;>(go_wp2_with fail;refine zA (l _) ?_;go_wp2_with fail;refine zA (o _) ?_;go_wp2_with fail;go_ret;exact⟨by rw[c.out];rfl,j⟩)
 by_cases G:d=2
 ·subst G;have c:Hid (gB ⟨2,a,b⟩=(a.toList.isEmpty&&b.toList.isEmpty)):=Zh (by rw[g.out,if_neg nA,if_neg nA,if_neg nA,if_neg nA,if_pos nA]);clear g l n u o;cases aE:a.toList.isEmpty<;>cases bE:b.toList.isEmpty<;>rw[aE,bE] at c<;>(go_wp2_with fail;go_ret;exact⟨by rw[c.out];rfl,j⟩)
 by_cases H:d=7
 ·subst H;have c:Hid (gB ⟨7,a,b⟩=(a.toList.isEmpty&&b.toList.isEmpty)):=Zh (by rw[g.out,if_neg nA,if_neg nA,if_neg nA,if_neg nA,if_pos nA]);clear g l n u o;cases aE:a.toList.isEmpty<;>cases bE:b.toList.isEmpty<;>rw[aE,bE] at c<;>(go_wp2_with fail;go_ret;exact⟨by rw[c.out];rfl,j⟩)
 by_cases I:d=8
 ·subst I;have c:Hid (gB ⟨8,a,b⟩=(a.toList.isEmpty&&b.toList.isEmpty)):=Zh (by rw[g.out,if_neg nA,if_neg nA,if_neg nA,if_neg nA,if_pos nA]);clear g l n u o;cases aE:a.toList.isEmpty<;>cases bE:b.toList.isEmpty<;>rw[aE,bE] at c<;>(go_wp2_with fail;go_ret;exact⟨by rw[c.out];rfl,j⟩)
 have c:Hid (gB ⟨d,a,b⟩=false):=Zh (by rw[g.out];simp[B,G,C,D,E,F,H,I]);have M:=int_ne B;have N:=int_ne G;have O:=int_ne C;have P:=int_ne D;have Q:=int_ne E;have R:=int_ne F;have S:=int_ne H;have T:=int_ne I;clear g l n u o;go_wp2_with fail;go_ret;exact⟨by rw[c.out];rfl,j⟩
end P11
namespace P11
open Go.RowKit Go.ChangeShapes Go.WideShapes Go.Deep Kd P4
theorem laidOut:laidOutB prog=true:=by kernel_rfl
end P11
namespace P13
open Go.RowKit Kd P4
theorem Lp:(prog.info? 9).map (fun i=>(i.zero,i.size,i.bytes))=some (some (tA),1,16):=by kernel_rfl
def cI:Kind prog wA where
 t:=208
 e:=9
 size:=1
 bytes:=16
 z:=tA
 cs:=fun s=>[bA s]
 ht:=underlying208
 info:=VG Lp
 QG:=rfl
 wF:=by decide
 RG:=by decide
 len:=fun _=>rfl
 one:=fun a u hu=>by simp at hu;subst hu;rfl
theorem T4{w:World}{B:Nat}{A:jA}{l:List wA}(h:cI.pA w B A l){k:Nat}(hk:k<l.length):∃b o,A=some (dA b o)/\b<B/\w.cell? ⟨b,o+k,none⟩=some (bA l[k]):=by
 obtain⟨b,o,a,c,d⟩:=h.at hk;refine⟨b,o,a,c,?_⟩;have:=d 0 _ rfl;rw[show k*cI.size+0=k from Nat.mul_one k] at this;exact this
theorem toList_inj{s t:wA}(h:s.toList=t.toList):s=t:=by
 rw[ByteArray.toList_eq,ByteArray.toList_eq] at h;cases s;cases t;simp only[Array.toList_inj] at h;subst h;rfl
theorem Ab{s t:wA}(h:s≠t):(s.toList==t.toList)=false:=beq_eq_false_iff_ne.2 (fun e=>h (toList_inj e))
theorem Yq{s t:wA}(h:s=t):(s.toList==t.toList)=true:=by subst h;exact beq_self_eq_true _
theorem Yf(l:List wA)(t:wA)(A:jA)(n c:Nat)(w:World)(hn:l.length=n)(hn2:n<=1000000)(ht:t∈l)(H:cI.pA w w.heap.size A l):
 fA 192 #[.slice A n c,bA t] w fun e w'=>(∃k:Nat,e= .returned (aA k))/\w=w':=by
 have p:=Zh H;have g:=Zh hn;have q:=Zh ht;clear H hn ht;go_enter func192,ntmps192;go_wp2_with fail;go_loop [8] (fun i=>∃k:Nat,k<=n/\i = aA k/\Hid (∀j (h:j<l.length),j<k->l[j]≠t)) (fun i=>n-(intOf i).toNat)
 case atStart=>exact⟨0,by omega,rfl,Zh (fun j _ h=>by omega)⟩
 case round=>
  obtain⟨k,y,rfl,m⟩:=hrel;by_cases r:k<n
  ·have d:k<l.length:=(uA g.out);obtain⟨b,o,rfl,z,B⟩:=T4 p d;by_cases a:t=l[k]
   ·have s:(t.toList==l[k].toList)=true:=Yq a;clear a;go_wp2;go_ret;exact⟨⟨k,rfl⟩,rfl⟩
   ·have s:(t.toList==l[k].toList)=false:=Ab a;have u:=Zh a;clear a;go_wp2;go_round
    case rel=>
     refine⟨k+1,by omega,by go_num,Zh (fun j f v=>?_)⟩;by_cases e:j=k
     ·subst e;exact fun x=>u x.symm
     ·exact m j f cA
    case measure=>simp[intOf];omega
  ·exfalso;obtain⟨j,f,e⟩:=List.mem_iff_getElem.1 q;exact m j f (uA g.out) e
theorem zi(l:List wA)(t:wA)(A:jA)(n c:Nat)(w:World)(hn:l.length=n)(hn2:n<=1000000)(ht:t∉l)(H:cI.pA w w.heap.size A l):
 fA 192 #[.slice A n c,bA t] w fun e w'=>e= .returned (aA (-1))/\w=w':=by
 have d:=Zh H;have f:=Zh hn;have g:=Zh ht;clear H hn ht;go_enter func192,ntmps192;go_wp2_with fail;go_loop [8] (fun i=>∃k:Nat,k<=n/\i = aA k) (fun i=>n-(intOf i).toNat)
 case atStart=>exact⟨0,by omega,rfl⟩
 case round=>
  obtain⟨k,m,rfl⟩:=hrel;by_cases j:k<n
  ·have a:k<l.length:=(uA f.out);obtain⟨b,o,rfl,p,q⟩:=T4 d a;have r:(t.toList==l[k].toList)=false:=Ab (fun e=>g (e▸List.getElem_mem a));go_wp2;go_round
   case rel=>exact⟨k+1,by omega,by go_num⟩
   case measure=>simp[intOf];omega
  ·go_wp2;go_ret;exact⟨rfl,rfl⟩
theorem cW(l:List wA)(t:wA)(A:jA)(n c:Nat)(w:World){r:Bool}(hr:r=true↔t∈l)(hn:l.length=n)(hn2:n<=1000000)(H:cI.pA w w.heap.size A l):
 fA 186 #[.slice A n c,bA t] w fun e w'=>e= .returned (.bool r)/\w=w':=by
 have d:=Zh H;have f:=Zh hn;clear H hn;by_cases a:t∈l
 ·have b:=Zh a;obtain rfl:r=true:=hr.2 a;clear a hr;go_enter func186,ntmps186;go_wp2_with fail;refine(Yf l t A n c w f hn2 b d).mono ?_;rintro e w' ⟨⟨k,rfl⟩,rfl⟩;have g:(0:Int)<=(k:Int):=cA;go_wp2_with fail;go_ret;exact⟨rfl,rfl⟩
 ·have b:=Zh a;obtain rfl:r=false:=by cases r with|true=>exact absurd (hr.1 rfl) a|false=>rfl
  clear a hr;go_enter func186,ntmps186;go_wp2_with fail;refine zA (zi l t A n c w f hn2 b d) ?_;go_wp2_with fail;go_ret;exact⟨rfl,rfl⟩
end P13
namespace P13
open Go.RowKit Kd P4 P5 P11 P12
def Nb(w:World)(l:List In)(f k:Nat)(s7 s8 s9:Value)(wr:World):Prop:=∃(j:Nat) (dp:Int) (A':jA) (n' c':Nat),f+j<=k/\s9 = aA ((f+j:Nat):Int)/\s8 = aA dp/\s7= .slice A' n' c'/\Hid (dp=(iD l f j).2)/\Hid (kX.Own wr w.heap.size (.slice A' n' c') (iD l f j).1)/\Hid (eA w wr)
def Iv(w:World)(l:List In)(e:Ending)(w':World):Prop:=∃(A:jA) (n c:Nat),e= .returned (.slice A n c)/\kX.Own w' w.heap.size (.slice A n c) l/\eA w w'
theorem Gh(l:List In)(A:jA)(n c k:Nat)(w:World)(hh:kX.pA w w.heap.size A l)(hn:l.length=n)(hk:k<=n)(hl:n<=1000):
 fA 96 #[.slice A n c,aA k] w (Iv w (RH l k)):=by
 have KH:=Zh hh;have KL:=Zh hn;obtain⟨f,hf,a6⟩:=SW l k;have HF:=Zh hf;have CB:Hid (fA 59 #[.slice A n c,aA k] w fun e w'=>e= .returned (.tuple #[aA f,aA ((zE l k).2:Nat)])/\eA w w'):=Zh (by
  have:=oT l A n c k w hh hn hk hl;rw[hf] at this;exact this)
 clear hh hn hf;go_enter func96,ntmps96;go_wp2_with fail;refine CB.mono ?_;rintro e w1 ⟨rfl,b1⟩;have B1:=Zh b1;have ST:Hid (Nb w l f k (vA) (aA 0) (aA f) w1):=Zh ⟨0,0,none,0,0,by omega,rfl,rfl,rfl,Zh (by rw[qW]),Zh (by rw[qW];exact Kind.Own.nil kX w1 _),B1⟩;clear b1 CB;simp only;go_wp2_with fail;go_loopw [7,8,9] (fun s7 s8 s9 wr=>Nb w l f k s7 s8 s9 wr) (fun _ _ s9 _=>k-(intOf s9).toNat)
 case atStart=>exact ST
 case round=>
  obtain⟨j,dp,M,N,O,hj,rfl,rfl,rfl,x,F,H⟩:=hrel;clear ST;obtain⟨i,Z⟩:=qA (f+j);have HI:=Zh Z;rw[Z] at hj;have a0:=tS l f j;have a1:-(j:Int)<=dp/\dp<=j:=(uA x.out);have a7:f<=i:=cA;have a8:j<=i:=cA;have a4:-1000<=dp:=cA;have a5:dp<=1000:=cA;have L:(iD l f j).1.length<=1000:=cA;have Q:=Zh L;clear a0 a1 L;rw[Z];clear Z;by_cases a9:i<k
  ·have a2:i<l.length:=(uA KL.out);obtain⟨b,o,rfl,hb,R,S,T⟩:=TG KH a2;have G:Hid (∀U,eA w U->U.cell? ⟨b,o+i*3,none⟩=some (aA l[i].op)/\U.cell? ⟨b,o+i*3+1,none⟩=some (bA l[i].a)/\U.cell? ⟨b,o+i*3+2,none⟩=some (bA l[i].b)):=Zh (fun U h=>⟨(h.cell hb).trans R,(h.cell hb).trans S,(h.cell hb).trans T⟩);obtain⟨y,z,C⟩:=G wr H;have q:Hid (iD l f (j+1)=XE (iD l f j) l[i]):=Zh (by
    have:=rW (l:=l) (f:=f) (j:=j) (uA HI.out);rw[this];congr 2<;>exact HI)
   have t:Hid (f+(j+1)=i+1):=Zh (uA HI.out);clear R S T;generalize l[i]=d at y z C G q;have V:=H.size;by_cases hz:dp=0
   ·subst hz;by_cases I:d.op=1
    ·obtain⟨s,a,r⟩:=d;simp only at y z C G;subst I;have D:Hid ((iD l f (j+1)).1=(iD l f j).1++[⟨1,a,r⟩]):=Zh (by rw[q.out,XE];simp only;rw[if_pos ⟨by rw[<-x.out],(show¬((1:Int)=2) by decide)⟩]);have E:Hid ((iD l f (j+1)).2=0+1):=Zh (by rw[q.out,XE];simp only[ID];rw[<-x.out];simp);have W:Hid (kX.pA (wr.alloc (.cells #[aA 1,bA a,bA r] 110)) (wr.heap.size+1) (some ⟨wr.heap.size,0,none⟩) [⟨1,a,r⟩]):=Zh (Kind.pA.lit (heap_alloc_new wr _) rfl);go_upto_region 9 with(at_builtin;refine kX.iC rfl _ _ rfl (v:=.slice M N O) (l:=(iD l f j).1) (m:=[⟨1,a,r⟩]) (B:=w.heap.size) rfl (F.alloc _) rfl rfl RB W (uA Q.out) AA ?_;intro v' X g p P;obtain⟨A4,n4,c4,rfl,J,K,e3,e4,e5⟩:=g.slice;have Y:Hid (eA w X):=Zh ((H.alloc V _).grown p AA (fun k hk=>(F.lt hk).1));have O4:=Zh g;clear g p P J K e3 e4 e5);clear W y z C;obtain⟨y,z,C⟩:=G X Y;go_wp2_with fail;go_roundw
     case rel=>exact⟨j+1,0+1,A4,n4,c4,by have:=t.out;omega,by rw[t.out];go_num,by first|rfl|go_num,rfl,Zh E.symm,Zh (by rw[D.out];exact O4),Y⟩
     case measure=>simp[intOf];omega
    ·by_cases u:d.op=2
     ·obtain⟨s,a,r⟩:=d;simp only at y z C G;subst u;have D:Hid ((iD l f (j+1)).1=(iD l f j).1):=Zh (by rw[q.out,XE];simp only;rw[if_neg (by rintro⟨J,K⟩;exact absurd rfl K)]);have E:Hid ((iD l f (j+1)).2=0 + -1):=Zh (by rw[q.out,XE];simp only[ID];rw[<-x.out];simp);go_wp2_with fail;go_roundw
      case rel=>exact⟨j+1,0 + -1,M,N,O,by have:=t.out;omega,by rw[t.out];go_num,by first|rfl|go_num,rfl,Zh E.symm,Zh (by rw[D.out];exact F),H⟩
      case measure=>simp[intOf];omega
     ·obtain⟨s,a,r⟩:=d;simp only at y z C G I u;have q1:=int_ne I;have q2:=int_ne u;have q3:(s != 2)=true:=(by simp[u]);have D:Hid ((iD l f (j+1)).1=(iD l f j).1++[⟨s,a,r⟩]):=Zh (by rw[q.out,XE];simp only;rw[if_pos ⟨by rw[<-x.out],u⟩]);have E:Hid ((iD l f (j+1)).2=0+0):=Zh (by rw[q.out,XE];simp only[ID];rw[<-x.out];rw[if_neg I,if_neg u]);have W:Hid (kX.pA (wr.alloc (.cells #[aA s,bA a,bA r] 110)) (wr.heap.size+1) (some ⟨wr.heap.size,0,none⟩) [⟨s,a,r⟩]):=Zh (Kind.pA.lit (heap_alloc_new wr _) rfl);go_upto_region 9 with(at_builtin;refine kX.iC rfl _ _ rfl (v:=.slice M N O) (l:=(iD l f j).1) (m:=[⟨s,a,r⟩]) (B:=w.heap.size) rfl (F.alloc _) rfl rfl RB W (uA Q.out) AA ?_;intro v' X g p P;obtain⟨A4,n4,c4,rfl,J,K,e3,e4,e5⟩:=g.slice;have Y:Hid (eA w X):=Zh ((H.alloc V _).grown p AA (fun k hk=>(F.lt hk).1));have O4:=Zh g;clear g p P J K e3 e4 e5);clear W y z C;obtain⟨y,z,C⟩:=G X Y;go_wp2_with fail;go_roundw
      case rel=>exact⟨j+1,0+0,A4,n4,c4,by have:=t.out;omega,by rw[t.out];go_num,by first|rfl|go_num,rfl,Zh E.symm,Zh (by rw[D.out];exact O4),Y⟩
      case measure=>simp[intOf];omega
   ·have qz:=int_ne hz;by_cases I:d.op=1
    ·obtain⟨s,a,r⟩:=d;simp only at y z C G;subst I;have D:Hid ((iD l f (j+1)).1=(iD l f j).1):=Zh (by rw[q.out,XE];simp only;rw[if_neg (by rintro⟨J,K⟩;exact hz (by rw[x.out];exact J))]);have E:Hid ((iD l f (j+1)).2=dp+1):=Zh (by rw[q.out,XE];simp only[ID];rw[<-x.out];simp);go_wp2_with fail;go_roundw
     case rel=>exact⟨j+1,dp+1,M,N,O,by have:=t.out;omega,by rw[t.out];go_num,by first|rfl|go_num,rfl,Zh E.symm,Zh (by rw[D.out];exact F),H⟩
     case measure=>simp[intOf];omega
    ·by_cases u:d.op=2
     ·obtain⟨s,a,r⟩:=d;simp only at y z C G;subst u;have D:Hid ((iD l f (j+1)).1=(iD l f j).1):=Zh (by rw[q.out,XE];simp only;rw[if_neg (by rintro⟨J,K⟩;exact absurd rfl K)]);have E:Hid ((iD l f (j+1)).2=dp + -1):=Zh (by rw[q.out,XE];simp only[ID];rw[<-x.out];simp);go_wp2_with fail;go_roundw
      case rel=>exact⟨j+1,dp + -1,M,N,O,by have:=t.out;omega,by rw[t.out];go_num,by first|rfl|go_num,rfl,Zh E.symm,Zh (by rw[D.out];exact F),H⟩
      case measure=>simp[intOf];omega
     ·obtain⟨s,a,r⟩:=d;simp only at y z C G I u;have q1:=int_ne I;have q2:=int_ne u;have q3:(s != 2)=true:=(by simp[u]);have D:Hid ((iD l f (j+1)).1=(iD l f j).1):=Zh (by rw[q.out,XE];simp only;rw[if_neg (by rintro⟨J,K⟩;exact hz (by rw[x.out];exact J))]);have E:Hid ((iD l f (j+1)).2=dp+0):=Zh (by rw[q.out,XE];simp only[ID];rw[<-x.out];rw[if_neg I,if_neg u]);go_wp2_with fail;go_roundw
      case rel=>exact⟨j+1,dp+0,M,N,O,by have:=t.out;omega,by rw[t.out];go_num,by first|rfl|go_num,rfl,Zh E.symm,Zh (by rw[D.out];exact F),H⟩
      case measure=>simp[intOf];omega
  ·have a3:Hid (RH l k=(iD l f j).1):=Zh (by rw[<-TW HF.out];congr 2;have:=HI.out;omega);go_wp2_with fail;go_ret;exact⟨M,N,O,rfl,by rw[a3.out];exact F,H⟩
theorem Hh{l:List In}{a:KA}{k n:Nat}(h:k<l.length)(ht:JB l[k].op=false):YE l a (k+1) n=if 8<=n then 9 else if gD l[k].op then 0 else 9:=by
 rw[YE,List.getElem?_eq_getElem h];simp only[ht];rfl
theorem Ef{l:List In}{a:KA}{k n:Nat}(h:k<l.length)(ht:JB l[k].op=true)(ha:l[k].a.toList=a):YE l a (k+1) n=9:=by
 rw[YE,List.getElem?_eq_getElem h];simp only[ht,ha,if_true]
theorem Ff{l:List In}{a:KA}{k n:Nat}(h:k<l.length)(ht:JB l[k].op=true)(ha:¬l[k].a.toList=a):YE l a (k+1) n=YE l a k (n+1):=by
 rw[YE,List.getElem?_eq_getElem h];simp only[ht,if_true];rw[if_neg ha]
def wL(w:World)(l:List In)(a:KA)(k:Nat)(s5 s6:Value)(wr:World):Prop:=∃(j m:Nat),j<=k/\m<=k/\s6 = aA ((j:Int)-1)/\s5 = aA m/\Hid (m+j=k)/\Hid (YE l a k 0=YE l a j m)/\Hid (eA w wr)
theorem il(l:List In)(A:jA)(n c k:Nat)(w:World)(hh:kX.pA w w.heap.size A l)(hn:l.length=n)(hk:k<l.length)(hl:n<=1000):
 fA 95 #[.slice A n c,aA k] w fun e w'=>e= .returned (aA (YE l l[k].a.toList k 0:Nat))/\eA w w':=by
 have P:=Zh hh;have Q:=Zh hn;have R:k<n:=cA;obtain⟨b,o,rfl,S,T,y,U⟩:=TG hh hk;have J:Hid (∀F,eA w F->F.cell? ⟨b,o+k*3+1,none⟩=some (bA l[k].a)):=Zh (fun F h=>(h.cell S).trans y);generalize l[k].a=f at J;have K:Hid (wL w l f.toList k (aA 0) (aA ((k:Int)-1)) w):=Zh ⟨k,0,Zl,by omega,rfl,rfl,Zh cA,Zh rfl,Zh Ze⟩;clear hh hn T y U hk;go_enter func95,ntmps95;go_wp2_with fail;go_loopw [5,6] (fun V G wr=>wL w l f.toList k V G wr) (fun _ G _=>(intOf G+1).toNat)
 case atStart=>exact K
 case round=>
  obtain⟨j,m,Z,hm,rfl,rfl,L,D,q⟩:=hrel;clear K;by_cases z:j=0
  ·subst z;have g:Hid (YE l f.toList k 0=9):=Zh (by rw[D.out,YE]);go_wp2_with fail;go_ret;exact⟨by rw[g.out];rfl,q⟩
  ·obtain⟨i,rfl⟩:∃i,j=i+1:=⟨j-1,by omega⟩;have B:((i+1:Nat):Int)-1=(i:Int):=cA;rw[B];clear B z;have r:i<l.length:=(uA Q.out);obtain⟨b',o',t,_,M,N,O⟩:=TG (P.on q) r;injection t with t;injection t with e1 e2 _;subst e1;subst e2;have gx:=J wr q;have u:Hid (JB l[i].op=false->YE l f.toList k 0=if 8<=m then 9 else if gD l[i].op then 0 else 9):=Zh (fun C=>by rw[D.out];exact Hh r C);have v:Hid (JB l[i].op=true->l[i].a.toList=f.toList->YE l f.toList k 0=9):=Zh (fun C s=>by rw[D.out];exact Ef r C s);have x:Hid (JB l[i].op=true->¬l[i].a.toList=f.toList->YE l f.toList k 0=YE l f.toList i (m+1)):=Zh (fun C s=>by rw[D.out];exact Ff r C s);generalize l[i]=d at M N O u v x;obtain⟨p,a,bb⟩:=d;simp only at M N O u v x;have W:i<n:=cA;obtain⟨tb,H⟩:=qA (JB p);go_wp2_with fail;refine zA (WJ p wr) ?_;rw[H] at u v x|-;cases tb with
   |true=>
    by_cases s:a.toList=f.toList
    ·have g:=Zh (v rfl s);have X:(a.toList==f.toList)=true:=(by simp[s]);clear u v x;go_upto_region 4 with fail;go_quiet (fail);go_wp2_with fail;go_ret;exact⟨by rw[g.out];rfl,PA q _⟩
    ·have g:=Zh (x rfl s);have X:(a.toList==f.toList)=false:=(by simp[s]);clear u v x;go_upto_region 4 with fail;go_quiet (fail);go_wp2_with fail;go_roundw
     case rel=>exact⟨i,m+1,by omega,by have:=L.out;omega,by go_num,by go_num,Zh (uA L.out),g,Zh (PA q _)⟩
     case measure=>simp[intOf]<;>omega
   |false=>
    have g:=Zh (u rfl);clear u v x;by_cases E:8<=m
    ·have Y:decide ((8:Int)<=(m:Int))=true:=AA;go_wp2_with fail;go_ret;exact⟨by rw[g.out,if_pos E];rfl,q⟩
    ·have Y:decide ((8:Int)<=(m:Int))=false:=AA;by_cases y:p=1
     ·subst y;go_wp2_with fail;go_ret;exact⟨by rw[g.out,if_neg E];rfl,q⟩
     ·have q1:(p != 1)=true:=(by simp[y]);by_cases I:p=3
      ·subst I;go_wp2_with fail;go_ret;exact⟨by rw[g.out,if_neg E];rfl,q⟩
      ·have q3:(p != 3)=true:=(by simp[I]);go_wp2_with fail;go_ret;exact⟨by rw[g.out,if_neg E,if_neg (by simp[gD,y,I])];rfl,q⟩
end P13
namespace P16
open Go.RowKit Kd P4 P5 P11 P12 P13 P14
def DF(t k:wA)(o:Ol):Bool:=bq o.tag t&&bq o.key k
def sR(t k:wA):List Ol->Nat->Int
 |[],_=>-1
 |o:: l,i=>if DF t k o then(i:Int) else sR t k l (i+1)
def tF(old:List Ol)(t k:wA)(i:Nat):Int:=sR t k (old.drop i) i
theorem ga{old:List Ol}{t k:wA}{i:Nat}(h:old.length<=i):tF old t k i = -1:=by
 unfold tF;rw[List.drop_of_length_le h];rfl
theorem ia{old:List Ol}{t k:wA}{i:Nat}(h:i<old.length)(hk:DF t k old[i]=true):tF old t k i=(i:Int):=by
 unfold tF;rw[List.drop_eq_getElem_cons h,sR,if_pos hk]
theorem bV{old:List Ol}{t k:wA}{i:Nat}(h:i<old.length)(hk:DF t k old[i]=false):tF old t k i=tF old t k (i+1):=by
 unfold tF;rw[List.drop_eq_getElem_cons h,sR,if_neg (by rw[hk];decide)]
theorem gQ(old:List Ol)(t k:wA):∀(d i:Nat),old.length-i=d->
 (tF old t k i = -1/\∀j (h:j<old.length),i<=j->DF t k old[j]=false)\/
 ∃(j:Nat) (h:j<old.length),tF old t k i=(j:Int)/\i<=j/\DF t k old[j]=true/\∀m (h:m<old.length),i<=m->m<j->DF t k old[m]=false
 |0,i,hd=> .inl ⟨ga cA,fun j h hj=>by omega⟩
 |d+1,i,hd=>by
  have hi:i<old.length:=cA;cases hk:DF t k old[i] with
  |true=>exact .inr ⟨i,hi,ia hi hk,Zl,hk,fun m _ h1 h2=>by omega⟩
  |false=>
   rw[bV hi hk];rcases gQ old t k d (i+1) cA with⟨h1,h2⟩|⟨j,hj,h1,h2,h3,h4⟩
   ·refine .inl ⟨h1,fun j h hj=>?_⟩;by_cases e:j=i
    ·subst e;exact hk
    ·exact h2 j h cA
   ·refine .inr ⟨j,hj,h1,by omega,h3,fun m h hm hmj=>?_⟩;by_cases e:m=i
    ·subst e;exact hk
    ·exact h4 m h cA hmj
theorem UY{w:PW}{old:List Ol}{left:List Bool}(h:∀j:Nat,left[j]? = some true->∀o:Ol,old[j]? = some o->∀f,EC w o f=false):∀m,(ZA w old left m).1 = -1
 |0=>rfl
 |m+1=>by
  have ih:=UY h m;rw[ZA,if_neg cA];split
  ·rename_i o ho hl;simp only;rw[h m hl o ho,if_neg nA]
  ·exact ih
theorem VR{w:PW}{old:List Ol}{left:List Bool}{n:Nat}(h:∀j:Nat,j<n->left[j]? = some true->∀o:Ol,old[j]? = some o->∀f,EC w o f=false):∀m,m<=n->(ZA w old left m).1 = -1
 |0,_=>rfl
 |m+1,hm=>by
  have ih:=VR h m cA;rw[ZA,if_neg cA];split
  ·rename_i o ho hl;simp only;rw[h m cA hl o ho,if_neg nA]
  ·exact ih
theorem Of{w:PW}{old:List Ol}{left:List Bool}{j m:Nat}{o:Ol}(h:∀i:Nat,i<j->left[i]? = some true->∀o:Ol,old[i]? = some o->∀f,EC w o f=false)(hl:left[j]? = some true)(ho:old[j]? = some o)(ht:∀f,EC w o f=true)(hm:j<m):
 (ZA w old left m).1=(j:Int):=by
 have b:=VR h j Zl;have a:(ZA w old left (j+1)).1=(j:Int):=by
  rw[xS cA ho hl,ht];rfl
 obtain⟨d,rfl⟩:∃d,m=j+1+d:=⟨m-(j+1),by omega⟩;rw[gP cA d,a]
theorem LN{w:PW}{old:List Ol}{left:List Bool}{n:Nat}(h:∀i:Nat,i<n->left[i]? = some false):∀m,m<=n->ZA w old left m=(-1,true)
 |0,_=>rfl
 |m+1,hm=>by
  have ih:=LN (w:=w) (old:=old) h m cA;rw[ZW (by rw[ih];decide) (h m cA),ih]
theorem VY{w:PW}{old:List Ol}{left:List Bool}{m:Nat}(hw:∀o,EC w o false=false)(h:ZA w old left m=(-1,false)):∀j,ZA w old left (m+j)=(-1,false)
 |0=>h
 |j+1=>by
  have ih:=VY hw h j;rw[<-Nat.add_assoc,ZA,if_neg (by rw[ih];decide)];split
  ·rename_i o ho hl;rw[ih,hw,if_neg nA]
  ·exact ih
theorem JS{w:PW}{old:List Ol}{left:List Bool}{F n:Nat}{o:Ol}(hw:∀o,EC w o false=false)(h:∀i:Nat,i<F->left[i]? = some false)(hl:left[F]? = some true)(ho:old[F]? = some o)(hn:F<n):
 (ZA w old left n).1=if EC w o true then(F:Int) else -1:=by
 have b:=LN (w:=w) (old:=old) h F Zl;have a:ZA w old left (F+1)=(if EC w o true then(F:Int) else -1,false):=by
  rw[xS (by rw[b];decide) ho hl,b]
 obtain⟨d,rfl⟩:∃d,n=F+1+d:=⟨n-(F+1),by omega⟩;cases ht:EC w o true with
 |true=>
  rw[ht] at a;simp only[if_true] at a|-;rw[gP (by rw[a];simp) d,a]
 |false=>
  rw[ht] at a;simp only[Bool.false_eq_true,if_false] at a|-;rw[VY hw a d]
theorem sT{w:PW}(h1:w.kind=1)(hk:w.key.toList.isEmpty=false)(o:Ol)(f:Bool):EC w o f=DF w.tag w.key o:=by
 unfold EC DF;rw[if_pos h1,hk];simp
theorem pS{w:PW}(h:¬(w.kind=1/\w.key.toList.isEmpty=false))(o:Ol):EC w o false=false:=by
 unfold EC;split
 ·rename_i h1;cases hk:w.key.toList.isEmpty with
  |false=>exact absurd ⟨h1,hk⟩ h
  |true=>simp
 ·split
  ·rfl
  ·split<;>rfl
theorem LS{left:List Bool}{q:Nat}:∀d,(∀i,q<=i->i<q+d->left[i]? = some false)->q+d<=left.length->WD left (q+d)=WD left q/\kD left (q+d)=kD left q
 |0,_,_=>⟨rfl,rfl⟩
 |d+1,h,hl=>by
  have ih:=LS d (fun i h1 h2=>h i h1 cA) cA;have hf:=h (q+d) cA cA;rw[<-Nat.add_assoc,<-nY cA hf,vU hf];exact ih
theorem WY{left:List Bool}{q i:Nat}(h:q<=i)(hl:q<=left.length):(WD left q)[i]? = left[i]?:=by
 unfold WD;rw[List.getElem?_append_right (by simpa using h),List.length_replicate,List.getElem?_drop];congr 1;omega
theorem Kl{left:List Bool}{q i:Nat}(h:i<q)(hl:q<=left.length):(WD left q)[i]? = some false:=by
 unfold WD;rw[List.getElem?_append_left (by simpa using h),List.getElem?_replicate,if_pos h]
theorem AQ{t k:wA}{o:Ol}:DF t k o=true↔o.tag=t/\o.key=k:=by
 have e:∀a b:wA,a.toList=b.toList↔a=b:=fun a b=>⟨fun h=>by
  rw[ByteArray.toList_eq,ByteArray.toList_eq] at h;obtain⟨⟨a⟩⟩:=a;obtain⟨⟨b⟩⟩:=b;simp only at h;rw[h],fun h=>by rw[h]⟩
 unfold DF bq;rw[Bool.and_eq_true,beq_iff_eq,beq_iff_eq,e,e]
end P16
namespace P20
open P5 P11 P12 P13 P14 P16
end P20
namespace P12
open Go.RowKit Kd P4 P5 P11
def VO(w:World)(p:List In×Nat)(e:Ending)(w':World):Prop:=∃(A:jA) (n c:Nat),e= .returned (.tuple #[.slice A n c,UA (p.2:Nat)])/\p.1.length=n/\n<=c/\c<=maxLen/\(A=none->c=0)/\kX.pA w' w'.heap.size A p.1/\eA w w'
def uK:Prop:=∀(b:KA) (A:jA) (n c:Nat) (w:World),kB.pA w w.heap.size A b->b.length=n->n<=c->c<=maxLen->n<=100000->fA 101 #[.slice A n c] w (VO w (SA b))
theorem Np{w:World}{D:Nat}{A:jA}{n c:Nat}{l:List In}(h:kX.Own w D (.slice A n c) l):l.length=n/\n<=c/\c<=maxLen/\(A=none->c=0)/\kX.pA w w.heap.size A l:=by
 obtain⟨i,j,k,a,b,d,e,f,g⟩:=h.slice;injection a with h1 h2 h3;subst h1;subst h2;subst h3;exact⟨b,d,e,f,g⟩
theorem DX(op:Int)(w:World):fA 143 #[aA op] w fun e w'=>e= .returned (aA (oE op:Nat))/\w=w':=by
 by_cases b:op=1
 ·subst b;go_enter func143,ntmps143;go_wp2_with fail;go_ret;exact⟨rfl,rfl⟩
 by_cases c:op=3
 ·subst c;go_enter func143,ntmps143;go_wp2_with fail;go_ret;exact⟨rfl,rfl⟩
 by_cases d:op=5
 ·subst d;go_enter func143,ntmps143;go_wp2_with fail;go_ret;exact⟨rfl,rfl⟩
 by_cases f:op=6
 ·subst f;go_enter func143,ntmps143;go_wp2_with fail;go_ret;exact⟨rfl,rfl⟩
 by_cases a:op=4
 ·subst a;go_enter func143,ntmps143;go_wp2_with fail;go_ret;exact⟨rfl,rfl⟩
 have g:Hid (oE op=0):=Zh (by unfold oE;rw[if_neg cA,if_neg a]);have i:=int_ne b;have j:=int_ne c;have k:=int_ne a;have l:=int_ne d;have m:=int_ne f;go_enter func143,ntmps143;go_wp2_with fail;go_ret;exact⟨by rw[g.out];rfl,rfl⟩
def JV(w:World)(C:Nat)(p:Option (KA×KA))(e:Ending)(w':World):Prop:=
 ((p=none/\e= .returned (.tuple #[tA,vA,.bool false]))\/
   ∃t r A n c,p=some (t,r)/\e= .returned (.tuple #[bA (bs t),.slice A n c,.bool true])/\r.length=n/\n<=c/\c<=maxLen/\kB.pA w C A r)/\eA w w'
theorem jP(l:KA)(A:jA)(n c C:Nat)(w:World)(hh:kB.pA w C A l)(hC:C<=w.heap.size)(hn:l.length=n)(zC:n<=c)(hl:n<=100000)(cC:c<=maxLen):fA 144 #[.slice A n c] w (JV w C (bF l)):=by
 have s:=Zh hh;have u:=Zh hn;have E:c<=9223372036854775807:=(by unfold maxLen at cC;omega);by_cases I:n=0
 ·subst I;have x:Hid (bF l=none):=Zh (by rw[List.eq_nil_of_length_eq_zero hn];rfl);clear hh hn;go_enter func144,ntmps144;go_wp2_with fail;go_ret3;exact⟨.inl ⟨x,rfl⟩,Ze⟩
 have j:0<l.length:=cA;obtain⟨b,o,rfl,R,F⟩:=qM hh j;simp only[Nat.add_zero] at F;have p:=Zh (Ya j);rw[List.drop_zero] at p;obtain⟨y,G⟩:=qA (l[0].toNat);have J:=l[0].toNat_lt;rw[G] at F J p;clear G hn hh j cC;have K:IntKind.i64.wrap (y:Int)=(y:Int):=by
  simp[IntKind.wrap,IntKind.bits,IntKind.signed];omega
 have S:((n:Int)==0)=false:=AA;have T:(0:Int)<(n:Int):=cA;by_cases g:n<0+1+y
 ·have x:Hid (bF l=none):=Zh (by rw[p.out,if_pos (by rw[u.out];exact g)]);have L:decide ((n:Int)-1<(y:Int))=true:=AA;go_enter func144,ntmps144;go_wp2_with fail;go_ret3;exact⟨.inl ⟨x,rfl⟩,Ze⟩
 ·obtain⟨e,M⟩:=qA (1+y);have i:((l.drop (0+1)).take y).length=e-1:=(by rw[List.length_take,List.length_drop,u.out];omega);obtain⟨t,v⟩:=qA ((l.drop (0+1)).take y);have z:Hid ((l.drop 1).take (e-1)=t):=Zh (by rw[<-v,show e-1=y by omega]);rw[v] at i;have B:Hid (bF l=some (t,l.drop e)):=Zh (by rw[p.out,if_neg (by rw[u.out];exact g),v,show 0+1+y=e by omega]);have d:Hid ((l.drop e).length+e=n):=Zh (by rw[List.length_drop,u.out];omega);have N:Hid (kB.pA w C (some ⟨b,o+e,none⟩) (l.drop e)):=Zh (by
   have:=s.drop e;simpa[kB] using this)
  have a:Hid (n=e->∀A,kB.pA w C A (l.drop e)):=Zh (fun h A=>by
   have:l.drop e=[]:=List.eq_nil_of_length_eq_zero (uA d.out);rw[this];exact Kind.pA.nil _ _ _)
  clear v p;have L:decide ((n:Int)-1<(y:Int))=false:=AA;have U:(1:Int)<=(e:Int):=cA;have V:(e:Int)<=(n:Int):=cA;have W:(0:Int)<=(e:Int):=cA;have X:(e:Int)<=(c:Int):=cA;have Y:(n:Int)<=(c:Int):=cA;have Z:IntKind.i64.wrap ((1:Int)+(y:Int))=(e:Int):=by
   rw[<-M];simp[IntKind.wrap,IntKind.bits,IntKind.signed];omega
  have H:Hid (∀f k,kB.pA f C (some (dA b o)) l->(convert 23 9 (.slice (some ⟨b,o+1,none⟩) (e-1) k)).run prog f= .ok (bA (bs t)) f):=Zh (fun f k h=>oO (cap:=k) h 1 i z);have O:Hid (e=1->∀f,kB.pA f C (some (dA b o)) l->(convert 23 9 (.slice (some (dA b o)) 0 0)).run prog f= .ok (bA (bs t)) f):=Zh (fun h1 f h=>by
   have q:t=[]:=List.eq_nil_of_length_eq_zero cA;have:=oO (cap:=0) (n:=0) h 0 (t:=t) (by rw[q];rfl) (by rw[q,List.take_zero]);simpa only[Nat.add_zero] using this)
  by_cases r:c=e
  ·subst r;obtain rfl:n=c:=cA
   by_cases D:n=1
   ·subst D;obtain rfl:y=0:=cA
    have m:=Zh (a rfl);clear a;go_enter func144,ntmps144;go_upto_region 4 with fail;go_region_held3 (fun w'=>(convert 23 9 (.slice (some (dA b o)) 0 0)).run prog w'= .ok (bA (bs t)) w') (first|go_keep|exact O rfl _ s.drew) (fail)
    all_goals (go_wp2_with fail)
    all_goals go_ret3
    all_goals exact⟨.inr ⟨t,_,_,_,_,B,rfl,by have:=d.out;omega,by omega,by unfold maxLen;omega,m _⟩,PA Ze _⟩
   ·have m:=Zh (a rfl);clear a;go_enter func144,ntmps144;go_upto_region 4 with fail;go_region_held3 (fun w'=>(convert 23 9 (.slice (some ⟨b,o+1,none⟩) (n-1) (n-1))).run prog w'= .ok (bA (bs t)) w') (first|go_keep|exact H _ _ s.drew) (fail)
    all_goals (go_wp2_with fail)
    all_goals go_ret3
    all_goals exact⟨.inr ⟨t,_,_,_,_,B,rfl,by have:=d.out;omega,by omega,by unfold maxLen;omega,m _⟩,PA Ze _⟩
  ·have P:¬c=1:=cA;have Q:¬c-1=0:=cA;clear a;go_enter func144,ntmps144;go_upto_region 4 with fail;go_region_held3 (fun w'=>(convert 23 9 (.slice (some ⟨b,o+1,none⟩) (e-1) (c-1))).run prog w'= .ok (bA (bs t)) w') (first|go_keep|exact H _ _ s.drew) (fail)
   all_goals (go_wp2_with fail)
   all_goals go_ret3
   all_goals exact⟨.inr ⟨t,_,_,_,_,B,rfl,by have:=d.out;omega,by omega,by unfold maxLen;omega,N⟩,PA Ze _⟩
end P12
end Go.Proofs.YtngnkmeaaneklaaGreat
