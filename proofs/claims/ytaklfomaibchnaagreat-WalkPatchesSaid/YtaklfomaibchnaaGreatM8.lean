/- A part of what the claimed theorem hangs on. No condition but those stated. -/
import Derived.Deep.RegionHeld3
import Derived.Deep.DrawnRows
import Derived.Deep.DeepCutAuto
import Derived.Deep.Cut
import Derived.Deep.MidRow
import Derived.Deep.CutBlock
import Derived.Test.YtaklfomaibchnaaGreatM1
import Derived.Test.YtaklfomaibchnaaGreatM4
import Derived.Test.YtaklfomaibchnaaGreatM5
import Derived.Test.YtaklfomaibchnaaGreatM7
set_option linter.unusedVariables false
set_option linter.unusedSimpArgs false
set_option maxRecDepth 100000
set_option maxHeartbeats 40000000
namespace Go.Proofs.YtaklfomaibchnaaGreat
namespace Tl
open Go
section
variable{P:Program}{ops:Array Oper}{Q:Exit→Act→World→Prop}{md:Region.Mode}{L:Nat}{oL:Oper}
def idle(o:Oper):Oper:={o with op:=.assign (.const (.bool true))}
def LastDo(P:Program)(ops:Array Oper)(oL:Oper)(Q:Exit→Act→World→Prop):Exit→Act→World→Prop
 | .normal,a,w=>∀K:Act→World→Prop,(∀a w,Q .normal a w→K a w)→if Region.wanted oL (yielded ops a.tmps)=true then Oper.wp P oL a w K Q else K (a.put oL.dst undef) w
 |e,a,w=>Q e a w
theorem lets(h:LetsOut (LastDo P ops oL Q)):LetsOut Q:=h
theorem idle_at(hL:ops[L]? = some oL)(j:Nat):(ops.setIfInBounds L (idle oL))[j]? = (ops[j]?).map fun o=>if j=L then idle oL else o:=by
 rw[Array.getElem?_setIfInBounds];by_cases e:L=j
 ·subst e;rw[if_pos rfl,hL];simp[(Array.getElem?_eq_some_iff.1 hL).1]
 ·rw[if_neg e];cases ops[j]?<;>simp[Ne.symm e]
theorem idle_after(hL:ops[L]? = some oL)(j:Nat):((ops.setIfInBounds L (idle oL))[j]?).map (·.after)=(ops[j]?).map (·.after):=by
 rw[idle_at hL];by_cases e:j=L
 ·subst e;rw[hL];simp[idle]
 ·cases ops[j]?<;>simp[e]
theorem idle_dst(hL:ops[L]? = some oL)(j:Nat):((ops.setIfInBounds L (idle oL))[j]?).bind (·.dst)=(ops[j]?).bind (·.dst):=by
 rw[idle_at hL];by_cases e:j=L
 ·subst e;rw[hL];simp[idle]
 ·cases ops[j]?<;>simp[e]
theorem idle_yielded(hL:ops[L]? = some oL)(t:Array Value):yielded (ops.setIfInBounds L (idle oL)) t=yielded ops t:=by
 funext j;unfold yielded;rw[idle_dst hL]
theorem idle_ready(hL:ops[L]? = some oL)(listed:Array Bool):Region.ready md (ops.setIfInBounds L (idle oL)) listed=Region.ready md ops listed:=by
 unfold Region.ready;rw[Array.size_setIfInBounds];congr 1;funext i;have:=idle_after hL i;have e:∀x:Option Oper,(x.map fun o=>o.after.all fun e=>!Region.binds md e || listed.getD e.on false)=(x.map (·.after)).map fun a=>a.all fun e=>!Region.binds md e || listed.getD e.on false:=fun x=>by cases x<;>rfl
 rw[e,e,this]
def lastB(md:Region.Mode)(ops:Array Oper)(L:Nat):Bool:=
 (List.range ops.size).all fun k=>(k==L || (List.range ops.size).any fun j=>decide (k<j)&&((ops[j]?).map fun o=>o.after.any fun e=>Region.binds md e&&e.on==k).getD false)&&((ops[k]?).map fun o=>o.after.all fun e=>!Region.binds md e || decide (e.on<k)).getD false&&decide (k≤L)
structure Last(md:Region.Mode)(ops:Array Oper)(L:Nat):Prop where
 next:∀k,k<ops.size→k≠L→∃j o,k<j∧ops[j]? = some o∧∃e∈o.after,Region.binds md e=true∧e.on=k
 prev:∀(k:Nat) (o:Oper),ops[k]? = some o→∀e∈o.after,Region.binds md e=true→e.on<k
 last:∀k,k<ops.size→k≤L
theorem lastB_spec(h:lastB md ops L=true):Last md ops L:=by
 unfold lastB at h;rw[List.all_eq_true] at h;refine⟨fun k hk hne=>?_,fun k o ho e he hb=>?_,fun k hk=>?_⟩
 ·have:=h k (List.mem_range.2 hk);simp only[Bool.and_eq_true,Bool.or_eq_true,beq_iff_eq,hne,false_or] at this;obtain⟨j,hj,hk2⟩:=List.any_eq_true.1 this.1.1;simp only[Bool.and_eq_true,decide_eq_true_eq] at hk2;obtain⟨hkj,hk3⟩:=hk2;rw[List.mem_range] at hj;rw[Array.getElem?_eq_getElem hj] at hk3;simp only[Option.map_some,Option.getD_some] at hk3;obtain⟨e,he,hb⟩:=Array.any_eq_true'.1 hk3;simp only[Bool.and_eq_true,beq_iff_eq] at hb;exact⟨j,ops[j],hkj,Array.getElem?_eq_getElem hj,e,he,hb.1,hb.2⟩
 ·have hk:=(Array.getElem?_eq_some_iff.1 ho).1;have:=h k (List.mem_range.2 hk);simp only[Bool.and_eq_true,ho,Option.map_some,Option.getD_some] at this;have h2:=Array.all_eq_true_iff_forall_mem.1 this.1.2 e he;simpa[hb] using h2
 ·have:=h k (List.mem_range.2 hk);simp only[Bool.and_eq_true,decide_eq_true_eq] at this;exact this.2
def Closed(md:Region.Mode)(ops:Array Oper)(listed:Array Bool):Prop:=∀j o,ops[j]? = some o→listed.getD j false=true→∀e∈o.after,Region.binds md e=true→listed.getD e.on false=true
theorem Closed.set{listed:Array Bool}(h:Closed md ops listed){i:Nat}(hi:i∈Region.ready md ops listed):Closed md ops (listed.setIfInBounds i true):=by
 intro j o ho hj e he hb;by_cases hji:i=j
 ·subst hji;obtain⟨_,o2,ho2,h2⟩:=mem_ready.1 hi;rw[ho] at ho2;injection ho2 with ho2;subst ho2;exact getD_set_true (h2 e he hb)
 ·rw[getD_set_ne false hji] at hj;exact getD_set_true (h j o ho hj e he hb)
theorem all_listed(hl:Last md ops L){listed:Array Bool}(hc:Closed md ops listed)(hr:L∈Region.ready md ops listed):∀n k,n+k=L→k<ops.size→k≠L→listed.getD k false=true:=by
 obtain⟨_,oL,hL,ha⟩:=mem_ready.1 hr;intro n
 induction n using Nat.strongRecOn with
 |ind n ih=>
  intro k hn hk hne;obtain⟨j,o,hkj,ho,e,he,hb,rfl⟩:=hl.next k hk hne;have hj:=(Array.getElem?_eq_some_iff.1 ho).1;by_cases hjL:j=L
  ·subst hjL;rw[hL] at ho;injection ho with ho;subst ho;exact ha e he hb
  ·have:=hl.last j hj;exact hc j o ho (ih (L-j) (by omega) j (by omega) hj hjL) e he hb
theorem getD_two{listed:Array Bool}{k:Nat}(h:listed.getD k false=true)(d:Bool):listed.getD k d=true:=by
 simp only[Array.getD_eq_getD_getElem?] at h⊢;cases e:listed[k]? with
 |none=>rw[e] at h;simp at h
 |some v=>rw[e] at h;simpa using h
theorem some_ready(hl:Last md ops L){listed:Array Bool}(hs:listed.size=ops.size)(k:Nat):k<ops.size→listed.getD k true=false→Region.ready md ops listed≠[]:=by
 induction k using Nat.strongRecOn with
 |ind k ih=>
  intro hk hu;by_cases hall:∀e∈(ops[k]'hk).after,Region.binds md e=true→listed.getD e.on false=true
  ·intro h0;have:k∈Region.ready md ops listed:=mem_ready.2 ⟨hu,_,Array.getElem?_eq_getElem hk,hall⟩;rw[h0] at this;cases this
  ·simp only[Classical.not_forall] at hall;obtain⟨e,he,hb,hn⟩:=hall;have hlt:=hl.prev k _ (Array.getElem?_eq_getElem hk) e he hb;refine ih e.on hlt (by omega) ?_;have hlt2:e.on<listed.size:=(by omega);simp only[Array.getD_eq_getD_getElem?,Array.getElem?_eq_getElem hlt2,Option.getD_some,Bool.not_eq_true] at hn⊢;exact hn
theorem none_ready{listed:Array Bool}(h:∀k,k<ops.size→listed.getD k true=true):Region.ready md ops listed=[]:=by
 rw[List.eq_nil_iff_forall_not_mem];intro k hk;obtain⟨h0,o,ho,_⟩:=mem_ready.1 hk;rw[h k (Array.getElem?_eq_some_iff.1 ho).1] at h0;cases h0
theorem upon_imp{o:Oper}{a:Act}{K K':Act→World→Prop}{Q':Exit→Act→World→Prop}(hK:∀a w,K a w→K' a w)(hp:∀c a w,Q' (.panic c) a w→Q (.panic c) a w)(hl:LetsOut Q'→LetsOut Q){r:Result Next}(h:o.upon P a K Q' r):o.upon P a K' Q r:=by
 cases r with
 |ok n w'=>
  cases n with
  |value v=>exact hK _ _ h
  |skip=>exact hK _ _ h
  |defer d=>exact hK _ _ h
  |enter f args=>
   refine Calls.mono (h:Calls P f args w' _) fun e w'' he=>?_
   cases e with
   |returned v=>exact hK _ _ he
   |panicked c=>exact hp _ _ _ he
   |outgrown=>exact hl he
  |row row args=>exact Rows.mono (h:Rows P row args w' _) fun _ _ he=>hK _ _ he
  |_=>exact(h:False).elim
 |halt x w'=>cases x<;>first|exact hp _ _ _ h|exact(h:False).elim
theorem idle_run{a:Act}{w:World}(hd:oL.dst=none){K:Act→World→Prop}{Q':Exit→Act→World→Prop}(h:(idle oL).wp P a w K Q'∨((idle oL).asks P a w∧LetsOut Q')):K a w:=by
 rcases h with h|h
 ·unfold Oper.wp idle at h;simp only[execOp,Act.eval] at h;simpa[Act.put,hd,Oper.upon] using h
 ·exfalso;have h1:=h.1.1;unfold idle at h1;simp only[execOp,Act.eval] at h1;have h2:noRoomEvent∈(#[]:Array Event):=h1;simp at h2
theorem wpAny_last(hL:ops[L]? = some oL)(hd:oL.dst=none)(hg:oL.guard=none)(hl:Last md ops L):∀(fuel:Nat) (listed:Array Bool) (a:Act) (w:World),listed.size=ops.size→Closed md ops listed→listed.getD L true=false→
 (∀k,k<ops.size→listed.getD k true=false→fuel≠0)→(listed.toList.countP (!·))≤fuel→
 wpAny P md (ops.setIfInBounds L (idle oL)) (LastDo P ops oL Q) fuel listed a w→wpAny P md ops Q fuel listed a w:=by
 have hLs:=(Array.getElem?_eq_some_iff.1 hL).1;intro fuel
 induction fuel with
 |zero=>intro listed a w _ _ hu h0 _ _;exact absurd rfl (h0 L hLs hu)
 |succ fuel ih=>
  intro listed a w hs hc hu _ hcnt h;obtain⟨h1,h2⟩:=h;refine⟨fun h0=>absurd h0 (some_ready hl hs L hLs hu),fun i hi=>?_⟩;have hi2:=h2 i (by rw[idle_ready hL];exact hi);have hset:(listed.setIfInBounds i true).size=ops.size:=(by rw[Array.size_setIfInBounds];exact hs);by_cases hiL:i=L
  ·subst hiL;have hdone:Region.ready md ops (listed.setIfInBounds i true)=[]:=none_ready fun k hk=>by
    by_cases e:i=k
    ·subst e;simp[hs,hk]
    ·rw[getD_set_ne true e];exact getD_two (all_listed hl hc hi (i-k) k (by have:=hl.last k hk;omega) hk (Ne.symm e)) true
   have hlast:LastDo P ops oL Q .normal a w:=by
    unfold wpOp at hi2;rw[idle_at hL,hL] at hi2;simp only[Option.map_some,if_true] at hi2;have hw:Region.wanted (idle oL) (yielded (ops.setIfInBounds i (idle oL)) a.tmps)=true:=(by simp[Region.wanted,idle,hg]);rw[if_pos hw] at hi2;have:=idle_run hd hi2;cases fuel with
    |zero=>exact this.2
    |succ fuel=>exact this.1 (by rw[idle_ready hL];exact hdone)
   have:=hlast (wpAny P md ops Q fuel (listed.setIfInBounds i true)) fun a w hq=>wpAny_done hdone hq fuel
   unfold wpOp;rw[hL];simp only;split
   ·rename_i hw;rw[if_pos hw] at this;exact .inl this
   ·rename_i hw;rw[if_neg hw] at this;exact this
  ·have hmem:=mem_ready.1 hi;have hun:(listed.setIfInBounds i true).getD L true=false:=(by rw[getD_set_ne true hiL];exact hu);have hcnt2:(listed.setIfInBounds i true).toList.countP (!·)≤fuel:=by
    have hlt:i<listed.size:=by
     obtain⟨_,o,ho,_⟩:=hmem;have:=(Array.getElem?_eq_some_iff.1 ho).1;omega
    have hf:listed.toList[i]'(by simpa using hlt)=false:=by
     have:=hmem.1;simpa[hlt] using this
    rw[Array.toList_setIfInBounds,List.countP_set (by simpa using hlt),hf];simp only[Bool.not_false,Bool.not_true,if_true,Bool.false_eq_true,if_false];omega
   have hpos:∀k,k<ops.size→(listed.setIfInBounds i true).getD k true=false→fuel≠0:=by
    rintro k hk hk2 rfl;have hlt:k<(listed.setIfInBounds i true).toList.length:=(by simpa using (by omega:k<listed.size));have:0<(listed.setIfInBounds i true).toList.countP (!·):=by
     rw[List.countP_pos_iff];refine⟨(listed.setIfInBounds i true).toList[k],List.getElem_mem hlt,?_⟩;have h3:k<(listed.setIfInBounds i true).size:=(by simpa using hlt);have:(listed.setIfInBounds i true)[k]=false:=by
      simpa[Array.getD_eq_getD_getElem?,Array.getElem?_eq_getElem h3] using hk2
     rw[Array.getElem_toList,this];rfl
    omega
   have step:=fun a' w'=>ih (listed.setIfInBounds i true) a' w' hset (hc.set hi) hun hpos hcnt2
   unfold wpOp at hi2⊢;rw[idle_at hL] at hi2;obtain⟨o,ho⟩:∃o,ops[i]? = some o:=by obtain⟨_,o,ho,_⟩:=hmem;exact⟨o,ho⟩
   rw[ho] at hi2⊢;simp only[Option.map_some,if_neg hiL,idle_yielded hL] at hi2⊢;split
   ·rename_i hw;rw[if_pos hw] at hi2;rcases hi2 with h|h
    ·exact .inl (upon_imp step (fun _ _ _ h=>h) lets h)
    ·exact .inr ⟨h.1,lets h.2⟩
   ·rename_i hw;rw[if_neg hw] at hi2;exact step _ _ hi2
theorem region_last{S:World→Prop}{id:Nat}{a:Act}{w:World}(hm:P.follows .mixedOrders=true)(L:Nat)(oL:Oper)(hL:ops[L]? = some oL)(hd:oL.dst=none)(hg:oL.guard=none)(hl:lastB .any ops L=true)(hS:S w.drew)
 (h:S w.drew→wpAnyH P .any (ops.setIfInBounds L (idle oL)) (LastDo P ops oL Q) S ops.size (Array.replicate ops.size false) a w.drew):(Code.region id ops true).wp P Q a w:=by
 have hLs:=(Array.getElem?_eq_some_iff.1 hL).1;refine wp_region_any hm (wpAny_last hL hd hg (lastB_spec hl) _ _ _ _ (by simp) ?_ (by simp[hLs]) (fun k hk _=>by omega) ?_ (wpAny_of_held _ _ _ _ (h hS)))
 ·intro j o ho hj;have hlt:=(Array.getElem?_eq_some_iff.1 ho).1;simp[hlt] at hj
 ·rw[Array.toList_replicate,List.countP_replicate];simp
end
end Tl
namespace P14
open Go.RowKit Kd P4 P5 P11 P12 P13
attribute [local go_sem ↓] Go.wp_at_zero Go.wp_at_succ
def zB:ByteArray:=⟨#[]⟩
section
variable{w w':World}{g:Nat}{tag key:ByteArray}{A A2:Option Addr}{n c n2 k2:Nat}
end
theorem wtL_kids{t:WV}{l:List WV}(h:t∈l):wtL (erL t.kids)+1≤wtL (erL l):=by
 have h1:=wtL_mem (l:=erL l) (t:=er t) (by rw[erL_map];exact List.mem_map_of_mem h);rw[er_parts,wtW] at h1;omega
theorem cnt_parts(t:WV):cntW (er t)=if t.kind=2 then 1 else if t.kind=1 then 1+cntL (erL t.kids) else 0:=by rw[er_parts,cntW]
inductive WMix(K:Kind Tryz.prog WV)(w:World)(C:Nat)(Q:Nat→Prop):WV→Prop
 |mk {kind:Int} {tag key txt:ByteArray} {sa sk:Sv} {attrs:List P3.At} {kids:List WV} (al:attrs.length=sa.n) (ac:sa.n≤sa.c) (az:sa.A=none→sa.c=0) (ah:kA.Holds w C sa.A attrs)
  (own:K.Own w C (.slice sk.A sk.n sk.c) kids) (q:∀b,(Value.slice sk.A sk.n sk.c).ownBlock=some b→Q b) (ks:∀k∈kids,WMix K w C Q k):WMix K w C Q (.mk kind tag key txt sa attrs sk kids)
section
variable{K:Kind Tryz.prog WV}{w w':World}{C D:Nat}{Q R S:Nat→Prop}{t:WV}
theorem WMix.al(h:WMix K w C Q t):t.attrs.length=t.sa.n:=by cases h;assumption
theorem WMix.ac(h:WMix K w C Q t):t.sa.n≤t.sa.c:=by cases h;assumption
theorem WMix.az(h:WMix K w C Q t):t.sa.A=none→t.sa.c=0:=by cases h;assumption
theorem WMix.ah(h:WMix K w C Q t):kA.Holds w C t.sa.A t.attrs:=by cases h;assumption
theorem WMix.own(h:WMix K w C Q t):K.Own w C (.slice t.sk.A t.sk.n t.sk.c) t.kids:=by cases h;assumption
theorem WMix.q(h:WMix K w C Q t):∀b,(Value.slice t.sk.A t.sk.n t.sk.c).ownBlock=some b→Q b:=by cases h;assumption
theorem WMix.ks(h:WMix K w C Q t):∀k∈t.kids,WMix K w C Q k:=by cases h;assumption
theorem WMix.mono(h:WMix K w C Q t)(hq:∀b,b<w.heap.size→Q b→R b):WMix K w C R t:=by
 induction t using WV.ind with
 |h kind tag key txt sa attrs sk kids ih=>exact⟨h.al,h.ac,h.az,h.ah,h.own,fun b hb=>hq b (h.own.lt hb).2 (h.q b hb),fun k hk=>ih k hk (h.ks k hk)⟩
theorem WMix.but(h:WMix K w C Q t)(hC:C≤w.heap.size)(hb:But S w w')(hS:∀b,Q b→¬S b)(hA:∀b,b<w.heap.size→S b→C≤b):WMix K w' C Q t:=by
 induction t using WV.ind with
 |h kind tag key txt sa attrs sk kids ih=>exact⟨h.al,h.ac,h.az,h.ah.below (hb.to_below hA hC) (Zl),h.own.but hb (fun b e=>hS b (h.q b e)),h.q,fun k hk=>ih k hk (h.ks k hk)⟩
theorem WMix.later(h:WMix K w C Q t)(hC:C≤w.heap.size)(hb:Below w.heap.size w w'):WMix K w' C Q t:=h.but hC (But.of_below hb (fun _=>False)) (fun _ _ h=>h) (fun _ _ h=>h.elim)
theorem WMix.ok(h:WMix K w C Q t)(hC:C≤w.heap.size):WOk K w w.heap.size t:=by
 induction t using WV.ind with
 |h kind tag key txt sa attrs sk kids ih=>
  have h2:=h.own;simp only[WV.sk,WV.kids] at h2;obtain⟨A,n,c,hv,e1,e2,e3,e4,e5⟩:=h2.slice;injection hv with v1 v2 v3;subst v1;subst v2;subst v3;exact⟨h.al,h.ac,h.az,h.ah.more hC,e1,e2,fun e=>e4 e,e5,fun k hk=>ih k hk (h.ks k hk)⟩
end
theorem mix_grew{K:Kind Tryz.prog WV}{w5 w7:World}{o:Obj}{C:Nat}{A A7:Option Addr}{n c n7 c7:Nat}{l:List WV}{k:WV}{Q:Nat→Prop}(hC:C≤w5.heap.size)(own:K.Own w5 C (.slice A n c) l)
 (ks:∀k∈l,WMix K w5 C (fun b=>Q b∧(Value.slice A n c).ownBlock≠some b) k) (hk:WMix K w5 C (fun b=>Q b∧(Value.slice A n c).ownBlock≠some b) k) (hg:(w5.alloc o).grownBy w7 (Value.slice A n c).ownBlock)
 (hat:(Value.slice A7 n7 c7).ownBlock=(Value.slice A n c).ownBlock∨(Value.slice A7 n7 c7).ownBlock=some (w5.alloc o).heap.size):
 (∀t∈l++[k],WMix K w7 C (fun b=>Q b∧(Value.slice A7 n7 c7).ownBlock≠some b) t)∧But (fun b=>(Value.slice A n c).ownBlock=some b) w5 w7:=by
 have b7:But (fun b=>(Value.slice A n c).ownBlock=some b) w5 w7:=(But.alloc (But.refl _ _) _).trans (But.of_grown (S:=fun i=>(Value.slice A n c).ownBlock=some i) hg (fun i hi _=>hi)) (fun _ _ h=>h);have key':∀k:WV,WMix K w5 C (fun b=>Q b∧(Value.slice A n c).ownBlock≠some b) k→WMix K w7 C (fun b=>Q b∧(Value.slice A7 n7 c7).ownBlock≠some b) k:=by
  intro k h;have h1:WMix K w5 C (fun b=>(Q b∧(Value.slice A n c).ownBlock≠some b)∧b<w5.heap.size) k:=h.mono fun b hb hq=>⟨hq,hb⟩
  refine(h1.but hC b7 (fun b hq hs=>hq.1.2 hs) (fun b _ e=>(own.lt e).1)).mono fun b _ hq=>⟨hq.1.1,fun e=>?_⟩
  rcases hat with h2|h2
  ·exact hq.1.2 (h2▸e)
  ·rw[h2] at e;injection e with e;have:=hq.2;simp at e;omega
 refine⟨fun t ht=>?_,b7⟩;rcases List.mem_append.1 ht with h|h
 ·exact key' t (ks t h)
 ·rw[List.mem_singleton.1 h];exact key' _ hk
def Mv(C:Nat)(w:World)(l:List PW)(e:Ending)(w':World):Prop:=∃(A:Option Addr) (n c:Nat) (us:List WV),e = .returned (.slice A n c)∧erL us=l∧kQ.Own w' w.heap.size (.slice A n c) us∧(∀t∈us,WMix kQ w' C (fun b=>w.heap.size≤b∧(Value.slice A n c).ownBlock≠some b) t)∧Below w.heap.size w w'
def AsC(ts:List WV):Prop:=∀(C:Nat) (w:World) (A:Option Addr) (n c:Nat),C≤w.heap.size→kW.Holds w C A ts→ts.length=n→(∀t∈ts,WOk kW w C t)→wtL (erL ts)≤100000→Calls Tryz.prog 19 #[.slice A n c] w (Mv C w (erL ts))
def AsRel(C:Nat)(w:World)(ts:List WV)(n:Nat)(s3 s4:Value)(wr:World):Prop:=∃(k:Nat) (A':Option Addr) (n' c':Nat) (us:List WV),k≤n∧s4 = .int .i64 k∧s3 = .slice A' n' c'∧Hid (erL us=(erL ts).take k)∧Hid (kQ.Own wr w.heap.size (.slice A' n' c') us)∧Hid (∀t∈us,WMix kQ wr C (fun b=>w.heap.size≤b∧(Value.slice A' n' c').ownBlock≠some b) t)∧Hid (Below w.heap.size w wr)
theorem as_of(ts:List WV)(IH:∀t∈ts,AsC t.kids):AsC ts:=by
 intro C w A n c hC hh hn hok hw;have KH:=Zh hh;have KL:=Zh hn;have KS:=Zh hok;have HI:Hid (∀t∈ts,AsC t.kids):=Zh IH;have EL:Hid ((erL ts).length=n):=Zh (by rw[erL_map];simpa using hn);have HW:=Zh hw;have HC:=Zh hC;have hn1:n≤100000:=(by have:=wtL_len (erL ts);have:=EL.out;omega);have ST:Hid (AsRel C w ts n (.slice none 0 0) (.int .i64 0) w):=Zh ⟨0,none,0,0,[],by omega,rfl,rfl,Zh (by simp[erL]),Zh (Kind.Own.nil kQ w _),Zh (by intro t ht;cases ht),Zh Ze⟩;clear hh hn hok hw IH;go_enter Tryz.func19,Tryz.ntmps19;go_wp2_with fail;go_loopw [3,4] (fun s3 s4 wr=>AsRel C w ts n s3 s4 wr) (fun _ s4 _=>n-(intOf s4).toNat)
 case atStart=>exact ST.out
 case round=>
  obtain⟨k,A',n',c',us,hk,rfl,rfl,HU,HO,HM,HB⟩:=hrel;clear ST;by_cases hkn:k<n
  ·have hkl:k<ts.length:=(by have:=KL.out;omega);have hke:k<(erL ts).length:=(by have:=EL.out;omega);obtain⟨b,o,rfl,hb,g0,g1,g2,g3,g4,g5⟩:=cell_of_w KH.out hkl;have hbw:b<w.heap.size:=(by have:=HC.out;omega);have SK0:Hid (∀wz,Below w.heap.size w wz→wz.cell? ⟨b,o+k*6,none⟩=some (.int .i64 ts[k].kind)∧wz.cell? ⟨b,o+k*6+1,none⟩=some (.string ts[k].tag)∧wz.cell? ⟨b,o+k*6+2,none⟩=some (.string ts[k].key)∧wz.cell? ⟨b,o+k*6+3,none⟩=some (.string ts[k].txt)∧wz.cell? ⟨b,o+k*6+4,none⟩=some (.slice ts[k].sa.A ts[k].sa.n ts[k].sa.c)∧wz.cell? ⟨b,o+k*6+5,none⟩=some (.slice ts[k].sk.A ts[k].sk.n ts[k].sk.c)):=Zh (fun wz h=>⟨(h.cell hbw).trans g0,(h.cell hbw).trans g1,(h.cell hbw).trans g2,(h.cell hbw).trans g3,(h.cell hbw).trans g4,(h.cell hbw).trans g5⟩);have hts:=(KS.out _ (List.getElem_mem hkl));have hwk:=wtL_kids (List.getElem_mem hkl);have HTS:Hid (∀wz,Below w.heap.size w wz→WOk kW wz C ts[k]):=Zh (fun wz h=>hts.later h HC.out);have CK:Hid (∀w9,Below w.heap.size w w9→Calls Tryz.prog 19 #[.slice ts[k].sk.A ts[k].sk.n ts[k].sk.c] w9 (Mv C w9 (erL ts[k].kids))):=Zh (fun w9 h=>by
    have h1:=hts.later h HC.out;exact HI.out _ (List.getElem_mem hkl) C w9 _ _ _ (by have:=h.size;have:=HC.out;omega) h1.kh h1.kl h1.ks (by have:=HW.out;omega))
   have HU2:Hid ((erL ts).take (k+1)=erL us++[er ts[k]]):=Zh (by rw[List.take_add_one,List.getElem?_eq_getElem hke,erL_at hkl hke,HU.out];rfl);have hul:us.length≤100000:=by
    have h1:=congrArg List.length HU.out;rw[erL_map,List.length_map,List.length_take] at h1;omega
   clear g0 g1 g2 g3 g4 g5 hts hwk hke;generalize ts[k]=d at SK0 CK HU2 HTS;clear hkl;have HUL:=Zh hul;clear hul;obtain⟨g0,g1,g2,g3,g4,g5⟩:=SK0.out wr HB.out;go_upto_region 5 with fail;have SK:=SK0.out wr HB.out;go_region_held3 (fun w'=>w'.cell? ⟨b,o+k*6,none⟩=some (.int .i64 d.kind)∧w'.cell? ⟨b,o+k*6+1,none⟩=some (.string d.tag)∧w'.cell? ⟨b,o+k*6+2,none⟩=some (.string d.key)∧w'.cell? ⟨b,o+k*6+3,none⟩=some (.string d.txt)∧w'.cell? ⟨b,o+k*6+4,none⟩=some (.slice d.sa.A d.sa.n d.sa.c)∧w'.cell? ⟨b,o+k*6+5,none⟩=some (.slice d.sk.A d.sk.n d.sk.c)) (first|go_keep|exact SK) ((first
    |(go_at_call 19;refine(CK.out _ (by first|exact Below_drewN HB.out _|exact HB.out.drew|exact HB.out)).mono ?_;rintro e w10 ⟨A5,n5,c5,ks,rfl,her,own5,mix5,b10⟩;have b10x:Below wr.heap.size wr w10:=(by first|exact(Below_drewN Ze _).trans b10|exact(Ze.drew).trans b10|exact b10);have B10:Hid (Below w.heap.size w w10):=Zh (HB.out.trans (b10x.mono HB.out.size));have SK:=SK0.out w10 B10.out;have HO10:=Zh (HO.out.below b10x (Zl));have HM10:=Zh (fun t ht=>(HM.out t ht).later (Nat.le_trans HC.out HB.out.size) b10x);have HER:=Zh her;have OW5:Hid (kQ.Own w10 wr.heap.size (.slice A5 n5 c5) ks):=Zh own5;have MX5:Hid (∀t∈ks,WMix kQ w10 C (fun b=>wr.heap.size≤b∧(Value.slice A5 n5 c5).ownBlock≠some b) t):=Zh mix5;have BX:=Zh b10x;clear b10 b10x own5 mix5 her)
    |(refine kQ.step_app rfl (.tmp 11) (.tmp 44) rfl (v:=.slice A' n' c') (l:=us) (m:=[.mk d.kind d.tag d.key d.txt d.sa d.attrs ⟨A5,n5,c5⟩ ks]) (B:=w.heap.size) rfl (by repeat (first|exact HO10.out|refine Kind.Own.alloc ?_ _|refine Kind.Own.drewN ?_ _|refine Kind.Own.drew ?_)) rfl rfl (fun e=>by cases e) (Kind.Holds.lit (by first|exact heap_alloc_new _ _|exact heap_drew (heap_top rfl)|exact heap_top rfl) rfl) (by have:=HUL.out;simp;omega) (by have:=B10.out.size;simp;omega) ?_;intro v' w12 hown' hgrow hat;obtain⟨A6,n6,c6,rfl,_,_,_,_,_⟩:=hown'.slice;have OW6:=Zh hown';have GR6:=Zh hgrow;have AT6:=Zh hat;have BZ:Hid (Below w.heap.size w w12):=Zh ((B10.out.alloc B10.out.size _).grown hgrow (by have:=B10.out.size;simp;omega) (fun i hi=>(HO10.out.lt hi).1));have SK:=SK0.out w12 BZ.out;clear hown' hgrow hat)
    |fail))
   have hts:=HTS.out w10 B10.out;have hwr:=HB.out.size;have hCr:C≤wr.heap.size:=Nat.le_trans HC.out hwr;have NEW:WMix kQ w10 C (fun b=>w.heap.size≤b∧(Value.slice A' n' c').ownBlock≠some b) (.mk d.kind d.tag d.key d.txt d.sa d.attrs ⟨A5,n5,c5⟩ ks):=by
    refine .mk hts.al hts.ac hts.az hts.ah (OW5.out.base_le hCr) (fun b hb=>?_) (fun u hu=>?_)
    ·have h1:=(OW5.out.lt hb).1;exact⟨by omega,fun e=>by have:=(HO.out.lt e).2;omega⟩
    ·exact(MX5.out u hu).mono fun b _ hq=>⟨by have:=hq.1;omega,fun e=>by have:=(HO.out.lt e).2;have:=hq.1;omega⟩
   have GREW:=mix_grew (Nat.le_trans hCr BX.out.size) (HO10.out.base_le HC.out) HM10.out NEW GR6.out AT6.out;have B12:Hid (Below w.heap.size w w12):=Zh (B10.out.trans (GREW.2.to_below (fun i _ hi=>(HO10.out.lt hi).1) B10.out.size));have REL:Hid (AsRel C w ts n (.slice A6 n6 c6) (.int .i64 ((k+1:Nat):Int)) w12):=Zh ⟨k+1,A6,n6,c6,_,by omega,rfl,rfl,Zh (by rw[erL_append,HU2.out];congr 1;show[er _]=[er d];rw[er_parts,er_parts];simp only[WV.kind,WV.tag,WV.key,WV.txt,WV.attrs,WV.kids,HER.out]),OW6,Zh GREW.1,B12⟩;clear GREW NEW hts;go_wp2_with fail;go_roundw
   case rel=>exact REL.out
   case measure=>simp[intOf];omega
  ·obtain rfl:k=n:=by omega
   have HR:Hid (erL us=erL ts):=Zh (by rw[HU.out,List.take_of_length_le (by have:=EL.out;omega)]);go_wp2_with fail;go_ret;exact⟨A',n',c',us,rfl,HR.out,HO.out,HM.out,HB.out⟩
theorem as_kids:∀t:WV,AsC t.kids:=by
 intro t
 induction t using WV.ind with
 |h kind tag key txt sa attrs sk kids ih=>exact as_of kids ih
theorem as_any(ts:List WV):AsC ts:=as_of ts (fun t _=>as_kids t)
end P14
namespace P13
open Go.RowKit Kd P4 P5 P11 P12
def CheckC:Prop:=∀(l:List In) (A:Option Addr) (n c:Nat) (w:World),kX.Holds w w.heap.size A l→l.length=n→n≤c→c≤maxLen→n≤1000→(∀i∈l,i.a.size≤300∧i.b.size≤300)→
 Calls Tryz.prog 24 #[.slice A n c] w fun e w'=>e = .returned (errV (checkP l:Nat))∧Below w.heap.size w w'
end P13
namespace P14
open Go.RowKit Kd P4 P5 P11 P12 P13
structure Wm(K:Kind Tryz.prog WV)(w:World)(A:Option Addr)(n c:Nat)(ts:List WV):Prop where
 len:ts.length=n
 cap:n≤c
 cm:c≤maxLen
 nil:A=none→c=0
 holds:K.Holds w w.heap.size A ts
 ok:∀t∈ts,WOk K w w.heap.size t
theorem Wm.on{K:Kind Tryz.prog WV}{w w':World}{A:Option Addr}{n c:Nat}{ts:List WV}(h:Wm K w A n c ts)(hb:Below w.heap.size w w'):Wm K w' A n c ts:=⟨h.len,h.cap,h.cm,h.nil,h.holds.on hb,fun t ht=>(h.ok t ht).on hb⟩
def OfV(w:World)(l:List In)(e:Ending)(w':World):Prop:=∃(A:Option Addr) (n c:Nat) (ts:List WV),e = .returned (.tuple #[.slice A n c,errV (checkP l:Nat)])∧erL ts=(if checkP l=0 then wantP l else[])∧Wm kW w' A n c ts∧Below w.heap.size w w'
def WOfC:Prop:=∀(l:List In) (A:Option Addr) (n c:Nat) (w:World),kX.Holds w w.heap.size A l→l.length=n→n≤c→c≤maxLen→n≤1000→(∀i∈l,i.a.size≤300∧i.b.size≤300)→Calls Tryz.prog 7 #[.slice A n c] w (OfV w l)
end P14
namespace P5
open Go.RowKit Kd P4
theorem newDoc_at(r:Int)(R:Nat)(w:World)(hr:r=R)(h1:1≤r)(h2:r≤200):Calls Tryz.prog 22 #[.int .i64 r] w (NewDoc w R):=by
 subst hr;exact newDoc_yes R w (by omega) (by omega)
theorem errV0:errV 0 = .nilIface:=rfl
variable{B p:Nat}{x:Dx}
theorem apply_n(d:D)(r:Rc):d.n≤(applyD d r).2.n∧(applyD d r).2.n≤d.n+1:=by
 unfold applyD;split
 ·unfold makeD;split
  ·exact⟨Int.le_refl _,by show d.n≤d.n+1;omega⟩
  ·split
   ·exact⟨Int.le_refl _,by show d.n≤d.n+1;omega⟩
   ·show d.n≤d.n+1∧d.n+1≤d.n+1;omega
 ·split
  ·unfold putD;split<;>exact⟨Int.le_refl _,by show d.n≤d.n+1;omega⟩
  ·split
   ·unfold goneD;split
    ·exact⟨Int.le_refl _,by show d.n≤d.n+1;omega⟩
    ·split<;>exact⟨Int.le_refl _,by show d.n≤d.n+1;omega⟩
   ·split
    ·unfold attrsD;split
     ·exact⟨Int.le_refl _,by show d.n≤d.n+1;omega⟩
     ·split
      ·exact⟨Int.le_refl _,by show d.n≤d.n+1;omega⟩
      ·split<;>exact⟨Int.le_refl _,by show d.n≤d.n+1;omega⟩
    ·split
     ·unfold dataD;split
      ·exact⟨Int.le_refl _,by show d.n≤d.n+1;omega⟩
      ·split
       ·exact⟨Int.le_refl _,by show d.n≤d.n+1;omega⟩
       ·split<;>exact⟨Int.le_refl _,by show d.n≤d.n+1;omega⟩
     ·exact⟨Int.le_refl _,by show d.n≤d.n+1;omega⟩
def NdB(w:World)(g:Nat)(nd:Nd)(A:Option Addr)(n c:Nat)(A2:Option Addr)(n2 k2:Nat):Prop:=
 w.heap[g]? = some (.cells #[.int .i64 nd.id,.int .i64 nd.par,.string nd.tag,.string nd.txt,.string nd.key,.slice A n c,.slice A2 n2 k2,.int .i64 nd.note] 48 (0,0))
section
variable{w w':World}{g:Nat}{nd:Nd}{A A2:Option Addr}{n c n2 k2:Nat}
theorem NdB.lt(h:NdB w g nd A n c A2 n2 k2):g<w.heap.size:=heap_lt h
theorem NdB.below{C:Nat}(h:NdB w g nd A n c A2 n2 k2)(hb:Below C w w')(hC:g<C):NdB w' g nd A n c A2 n2 k2:=(hb.block g hC).trans h
theorem NdB.new(w:World)(nd:Nd)(A:Option Addr)(n c:Nat)(A2:Option Addr)(n2 k2:Nat):NdB (w.alloc (.cells #[.int .i64 nd.id,.int .i64 nd.par,.string nd.tag,.string nd.txt,.string nd.key,.slice A n c,.slice A2 n2 k2,.int .i64 nd.note] 48)) w.heap.size nd A n c A2 n2 k2:=heap_alloc_new w _
theorem NdB.c0(h:NdB w g nd A n c A2 n2 k2):w.cell? ⟨g,0,none⟩=some (.int .i64 nd.id):=cell_of_row w g 0 _ _ (0,0) h
theorem NdB.c1(h:NdB w g nd A n c A2 n2 k2):w.cell? ⟨g,1,none⟩=some (.int .i64 nd.par):=cell_of_row w g 1 _ _ (0,0) h
theorem NdB.c2(h:NdB w g nd A n c A2 n2 k2):w.cell? ⟨g,2,none⟩=some (.string nd.tag):=cell_of_row w g 2 _ _ (0,0) h
theorem NdB.c3(h:NdB w g nd A n c A2 n2 k2):w.cell? ⟨g,3,none⟩=some (.string nd.txt):=cell_of_row w g 3 _ _ (0,0) h
theorem NdB.c4(h:NdB w g nd A n c A2 n2 k2):w.cell? ⟨g,4,none⟩=some (.string nd.key):=cell_of_row w g 4 _ _ (0,0) h
theorem NdB.c5(h:NdB w g nd A n c A2 n2 k2):w.cell? ⟨g,5,none⟩=some (.slice A n c):=cell_of_row w g 5 _ _ (0,0) h
theorem NdB.c6(h:NdB w g nd A n c A2 n2 k2):w.cell? ⟨g,6,none⟩=some (.slice A2 n2 k2):=cell_of_row w g 6 _ _ (0,0) h
theorem NdB.c7(h:NdB w g nd A n c A2 n2 k2):w.cell? ⟨g,7,none⟩=some (.int .i64 nd.note):=cell_of_row w g 7 _ _ (0,0) h
theorem NdB.frozen(h:NdB w g nd A n c A2 n2 k2)(i:Nat):w.frozen? ⟨g,i,none⟩=false:=by
 unfold NdB at h;simp[World.frozen?,h]
end
theorem nd_kids{w:World}(h:Dc w B p x)(hwf:WF x.d){k:Nat}(hk:k<x.rs.length):x.rs[k].nd.attrs.length≤1000∧x.rs[k].nd.kids.length≤1000∧x.rs[k].nd.kids.Nodup∧(∀c∈x.rs[k].nd.kids,∃j,∃hj:j<x.rs.length,x.rs[j].nd.id=c∧x.rs[j].nd.par=x.rs[k].nd.id)∧1≤x.rs[k].nd.id∧x.rs[k].nd.id≤x.n∧(x.rs[k].nd.tag.toList=[]→x.rs[k].nd.kids=[]):=by
 have hm:x.rs[k].nd∈x.d.l:=List.mem_map.2 ⟨_,List.getElem_mem hk,rfl⟩;have hkd:=(tag_at h hk rfl).2.2;have hr:=hwf.rng _ hm;refine⟨by have:=hwf.att _ hm;omega,by have:=hwf.kids_len hm;omega,by rw[←hkd];exact hwf.tr.nod _,fun c hc=>?_,hr.1,hr.2,hwf.elem _ hm⟩;obtain⟨h1,h2⟩:=hwf.kid_has hm hc;obtain⟨j,hj,e1,_⟩:=h.place h1;exact⟨j,hj,e1,by rw[←(tag_at h hj e1).2.1];exact h2⟩
theorem NdB.set8{w:World}{g:Nat}{nd nd':Nd}{A A2 A' A2':Option Addr}{n c n2 k2 n' c' n2' k2':Nat}(h:NdB w g nd A n c A2 n2 k2):
 NdB ((((((((w.setCell ⟨g,0,none⟩ (.int .i64 nd'.id)).setCell ⟨g,1,none⟩ (.int .i64 nd'.par)).setCell ⟨g,2,none⟩ (.string nd'.tag)).setCell ⟨g,3,none⟩ (.string nd'.txt)).setCell ⟨g,4,none⟩ (.string nd'.key)).setCell ⟨g,5,none⟩ (.slice A' n' c')).setCell ⟨g,6,none⟩ (.slice A2' n2' k2')).setCell ⟨g,7,none⟩ (.int .i64 nd'.note)) g nd' A' n' c' A2' n2' k2':=by
 unfold NdB at h⊢;simp[World.setCell,Array.getElem?_modify,h]
structure Rn where
 va:Sv
 vk:Sv
 nd:Nd
def Rn.rn(r:Rn):RN:=⟨r.nd.id,r.nd.par,r.nd.tag,r.nd.txt,r.nd.key,r.va,r.vk,r.nd.note⟩
structure Rx where
 v:Value
 n:Int
 R:Nat
 foc:Int
 rs:List Rn
def Rx.l(y:Rx):List Nd:=y.rs.map (·.nd)
def Rx.d(y:Rx):D:=⟨y.l,y.n,y.R,y.foc⟩
def rfoot(q:Nat)(y:Rx)(k:Nat):Prop:=k=q∨y.v.ownBlock=some k∨∃r∈y.rs,r.vk.val.ownBlock=some k
structure RNok(w:World)(B:Nat)(r:Rn):Prop where
 att:AOk w r.va r.nd.attrs
 kids:kI.Own w B r.vk.val r.nd.kids
structure Rf(w:World)(B q:Nat)(y:Rx):Prop where
 blk:w.heap[q]? = some (.cells #[y.v,.int .i64 (y.n+1),.int .i64 y.R,.int .i64 y.foc] 51 (0,0))
 base:B≤q
 own:kN.Own w B y.v (y.rs.map Rn.rn)
 nodes:∀r∈y.rs,RNok w B r
variable{B q:Nat}{y:Rx}
section
variable{w w':World}
theorem Rf.lt(h:Rf w B q y){k:Nat}(hk:rfoot q y k):k<w.heap.size:=by
 rcases hk with rfl|hk|⟨r,hr,hk⟩
 ·exact heap_lt h.blk
 ·exact(h.own.lt hk).2
 ·exact((h.nodes r hr).kids.lt hk).2
theorem Rf.ge(h:Rf w B q y){k:Nat}(hk:rfoot q y k):B≤k:=by
 rcases hk with rfl|hk|⟨r,hr,hk⟩
 ·exact h.base
 ·exact(h.own.lt hk).1
 ·exact((h.nodes r hr).kids.lt hk).1
theorem Rf.but{S:Nat→Prop}(h:Rf w B q y)(hb:But S w w')(hS:∀k,rfoot q y k→¬S k)(hA:NoA w S):Rf w' B q y:=by
 have kb:∀k,rfoot q y k→w'.heap[k]? = w.heap[k]?:=fun k hk=>hb.block k (h.lt hk) (hS k hk)
 refine⟨(kb q (.inl rfl)).trans h.blk,h.base,h.own.keep (fun g hg=>kb g (.inr (.inl hg))),fun r hr=>⟨(h.nodes r hr).att.but hb hA,(h.nodes r hr).kids.keep (fun g hg=>kb g (.inr (.inr ⟨r,hr,hg⟩)))⟩⟩
theorem Rf.below(h:Rf w B q y)(hb:Below w.heap.size w w'):Rf w' B q y:=h.but (But.of_below hb (fun _=>False)) (fun _ _ h=>h) (NoA.none w)
theorem Rf.drewN(h:Rf w B q y)(n:Nat):Rf (w.drewN n) B q y:=h.below (Below_drewN Ze n)
theorem Rf.alloc(h:Rf w B q y)(o:Obj):Rf (w.alloc o) B q y:=h.below (Ze.alloc (Zl) o)
theorem Rf.c0(h:Rf w B q y):w.cell? ⟨q,0,none⟩=some y.v:=cell_of_row w q 0 _ _ (0,0) h.blk
theorem Rf.c1(h:Rf w B q y):w.cell? ⟨q,1,none⟩=some (.int .i64 (y.n+1)):=cell_of_row w q 1 _ _ (0,0) h.blk
theorem Rf.c2(h:Rf w B q y):w.cell? ⟨q,2,none⟩=some (.int .i64 y.R):=cell_of_row w q 2 _ _ (0,0) h.blk
theorem Rf.c3(h:Rf w B q y):w.cell? ⟨q,3,none⟩=some (.int .i64 y.foc):=cell_of_row w q 3 _ _ (0,0) h.blk
theorem Rf.frozen(h:Rf w B q y)(i:Nat):w.frozen? ⟨q,i,none⟩=false:=by
 have:=h.blk;simp[World.frozen?,this]
theorem Rf.slice(h:Rf w B q y):∃A c,y.v = .slice A y.rs.length c∧y.rs.length≤c∧c≤maxLen∧(A=none→c=0)∧kN.Holds w w.heap.size A (y.rs.map Rn.rn):=by
 obtain⟨A,n,c,hv,h1,h2,h3,h4,h5⟩:=h.own.slice;rw[List.length_map] at h1;subst h1;exact⟨A,c,hv,h2,h3,h4,h5⟩
theorem cell_of_nodes{A:Option Addr}{rs:List Rn}{C:Nat}(h:kN.Holds w C A (rs.map Rn.rn)){k:Nat}(hk:k<rs.length):∃b o,A=some ⟨b,o,none⟩∧b<C∧
 w.cell? ⟨b,o+k*8,none⟩=some (.int .i64 rs[k].nd.id)∧w.cell? ⟨b,o+k*8+1,none⟩=some (.int .i64 rs[k].nd.par)∧w.cell? ⟨b,o+k*8+2,none⟩=some (.string rs[k].nd.tag)∧w.cell? ⟨b,o+k*8+3,none⟩=some (.string rs[k].nd.txt)∧
 w.cell? ⟨b,o+k*8+4,none⟩=some (.string rs[k].nd.key)∧w.cell? ⟨b,o+k*8+5,none⟩=some (.slice rs[k].va.A rs[k].va.n rs[k].va.c)∧w.cell? ⟨b,o+k*8+6,none⟩=some (.slice rs[k].vk.A rs[k].vk.n rs[k].vk.c)∧w.cell? ⟨b,o+k*8+7,none⟩=some (.int .i64 rs[k].nd.note):=by
 have hk':k<(rs.map Rn.rn).length:=(by simpa using hk);obtain⟨b,o,hA,hb,hc⟩:=h.at hk';have e:(rs.map Rn.rn)[k]=rs[k].rn:=(by simp);rw[e] at hc;exact⟨b,o,hA,hb,hc 0 _ rfl,hc 1 _ rfl,hc 2 _ rfl,hc 3 _ rfl,hc 4 _ rfl,hc 5 _ rfl,hc 6 _ rfl,hc 7 _ rfl⟩
theorem rl_len(y:Rx):y.l.length=y.rs.length:=by simp[Rx.l]
theorem rplace{i:Int}(ha:Asc y.l)(hi:hasL y.l i=true):∃k,∃hk:k<y.rs.length,y.rs[k].nd.id=i∧find y.l i=some y.rs[k].nd:=by
 obtain⟨z,hz,rfl⟩:=has_iff.1 hi;obtain⟨r,hr,rfl⟩:=List.mem_map.1 hz;obtain⟨k,hk,rfl⟩:=List.mem_iff_getElem.1 hr;exact⟨k,hk,rfl,ha.find hz⟩
structure Rdid(w:World)(B q:Nat)(y y':Rx)(w':World):Prop where
 rf:Rf w' B q y'
 but:But (fun k=>k=q) w w'
 ft:∀k,rfoot q y' k→rfoot q y k∨w.heap.size≤k
theorem Rdid.trans{w2:World}{y1 y2:Rx}(h:Rdid w B q y y1 w')(k:Rdid w' B q y1 y2 w2):Rdid w B q y y2 w2:=by
 have hs:=h.but.size;refine⟨k.rf,h.but.trans k.but (fun _ _ h=>h),fun i hi=>?_⟩;rcases k.ft i hi with e|e
 ·exact h.ft i e
 ·exact .inr (by omega)
theorem Rdid.below_(h:Rf w B q y)(hb:Below w.heap.size w w'):Rdid w B q y y w':=⟨h.below hb,But.of_below hb _,fun _ h=> .inl h⟩
theorem Rdid.below{y':Rx}{w2:World}(h:Rdid w B q y y' w')(hb:Below w'.heap.size w' w2):Rdid w B q y y' w2:=h.trans (Rdid.below_ h.rf hb)
theorem Rdid.to_below{y':Rx}(h:Rf w B q y)(k:Rdid w B q y y' w'):Below B w w':=k.but.to_below (fun i _ hi=>by have:=h.base;omega) (by have:=h.base;have:=h.lt (.inl rfl:rfoot q y q);omega)
theorem q_noA(h:Rf w B q y):NoA w (fun k=>k=q):=by
 rintro k c f rfl hk;exact heap_ne h.blk hk (by decide) rfl
end
theorem at_yes(i:Int){k:Nat}(w:World)(ha:Asc y.l)(hl:y.rs.length≤1000)(hk:k<y.rs.length)(hi:y.rs[k].nd.id=i)(h:Rf w B q y):Calls Tryz.prog 14 #[.pointer (some ⟨q,0,none⟩),.int .i64 i] w fun e w'=>e = .returned (.int .i64 k)∧w=w':=by
 obtain⟨A,c,hv,hc,hm,hz,hh⟩:=h.slice;have c0:=h.c0;rw[hv] at c0;have HH:=Zh hh;have hne:∀j (hj:j<y.rs.length),j<k→y.rs[j].nd.id≠i:=by
  intro j hj hjk e;have:=List.pairwise_iff_getElem.1 ha j k (by rw[rl_len];exact hj) (by rw[rl_len];exact hk) hjk;simp only[Rx.l,List.getElem_map] at this;omega
 have HNE:=Zh hne;have HI:=Zh hi;obtain⟨n,hn⟩:∃n,y.rs.length=n:=⟨_,rfl⟩;have HN:=Zh hn;rw[hn] at c0 hl hk;clear h hv hc hm hz hh hne hi ha hn;go_enter Tryz.func14,Tryz.ntmps14;go_wp2_with fail;go_loop [5] (fun s=>∃j:Nat,j≤k∧s = .int .i64 j) (fun s=>n-(intOf s).toNat)
 case atStart=>exact⟨0,by omega,rfl⟩
 case round=>
  obtain⟨j,hj,rfl⟩:=hrel;have hjl:j<y.rs.length:=(by have:=HN.out;omega);obtain⟨b,o,rfl,hb,g0,_⟩:=cell_of_nodes HH.out hjl;by_cases he:j=k
  ·subst he;have hq:(y.rs[j].nd.id==i)=true:=(by rw[HI.out];simp);go_wp2;go_ret;exact⟨rfl,rfl⟩
  ·have hq:(y.rs[j].nd.id==i)=false:=(by simpa using HNE.out j hjl (by omega));go_wp2;go_round
   case rel=>exact⟨j+1,by omega,by go_num⟩
   case measure=>simp[intOf];omega
theorem at_no(i:Int)(w:World)(hl:y.rs.length≤1000)(hi:hasL y.l i=false)(h:Rf w B q y):Calls Tryz.prog 14 #[.pointer (some ⟨q,0,none⟩),.int .i64 i] w fun e w'=>e = .returned (.int .i64 (-1))∧w=w':=by
 obtain⟨A,c,hv,hc,hm,hz,hh⟩:=h.slice;have c0:=h.c0;rw[hv] at c0;have HH:=Zh hh;have hne:∀j (hj:j<y.rs.length),y.rs[j].nd.id≠i:=fun j hj=>has_no.1 hi _ (List.mem_map.2 ⟨_,List.getElem_mem hj,rfl⟩)
 have HNE:=Zh hne;obtain⟨n,hn⟩:∃n,y.rs.length=n:=⟨_,rfl⟩;have HN:=Zh hn;rw[hn] at c0 hl;clear h hv hc hm hz hh hne hi hn;go_enter Tryz.func14,Tryz.ntmps14;go_wp2_with fail;go_loop [5] (fun s=>∃j:Nat,j≤n∧s = .int .i64 j) (fun s=>n-(intOf s).toNat)
 case atStart=>exact⟨0,by omega,rfl⟩
 case round=>
  obtain⟨j,hj,rfl⟩:=hrel;by_cases hjn:j<n
  ·have hjl:j<y.rs.length:=(by have:=HN.out;omega);obtain⟨b,o,rfl,hb,g0,_⟩:=cell_of_nodes HH.out hjl;have hq:(y.rs[j].nd.id==i)=false:=(by simpa using HNE.out j hjl);go_wp2;go_round
   case rel=>exact⟨j+1,by omega,by go_num⟩
   case measure=>simp[intOf];omega
  ·go_wp2;go_ret;exact⟨rfl,rfl⟩
theorem rtag_at{k:Nat}{i:Int}(ha:Asc y.l)(hk:k<y.rs.length)(hy:y.rs[k].nd.id=i):tagOf y.l i=y.rs[k].nd.tag∧parOf y.l i=y.rs[k].nd.par∧kidsOf y.l i=y.rs[k].nd.kids:=by
 have hm:y.rs[k].nd∈y.l:=List.mem_map.2 ⟨y.rs[k],List.getElem_mem hk,rfl⟩;have hf:=ha.find hm;rw[hy] at hf;unfold tagOf parOf kidsOf;rw[hf];exact⟨rfl,rfl,rfl⟩
theorem no_at{l:List Nd}{i:Int}(h:hasL l i=false):parOf l i=0∧kidsOf l i=[]:=by
 have:find l i=none:=(by simpa[hasL] using h);unfold parOf kidsOf;rw[this];exact⟨rfl,rfl⟩
theorem kids_any(i:Int)(w:World)(ha:Asc y.l)(hl:y.rs.length≤1000)(h:Rf w B q y):Calls Tryz.prog 33 #[.pointer (some ⟨q,0,none⟩),.int .i64 i] w fun e w'=>(∃A n c,e = .returned (.slice A n c)∧kI.Own w B (.slice A n c) (kidsOf y.l i)∧∀g,(Value.slice A n c).ownBlock=some g→rfoot q y g)∧w=w':=by
 have H:=Zh h;have HA:=Zh ha;cases hi:hasL y.l i with
 |false=>
  have HI:=Zh hi;have HK:=Zh (no_at hi).2;clear h ha hi;go_enter Tryz.func33,Tryz.ntmps33;go_wp2_with fail;refine(at_no i w hl HI.out H.out).mono ?_;rintro e w' ⟨rfl,rfl⟩;go_wp2_with fail;go_ret;rw[HK.out];exact⟨⟨none,0,0,rfl,Kind.Own.nil _ _ _,fun g e=>by cases e⟩,rfl⟩
 |true=>
  obtain⟨k,hk,hy,_⟩:=rplace ha hi;have HK:=Zh (rtag_at ha hk hy).2.2;have HY:=Zh hy;obtain⟨A,c,hv,hc,hm,hz,hh⟩:=h.slice;have c0:=h.c0;rw[hv] at c0;obtain⟨b,o,rfl,hb,g0,g1,g2,g3,g4,g5,g6,g7⟩:=cell_of_nodes hh hk;have OW:=Zh (h.nodes _ (List.getElem_mem hk)).kids;obtain⟨n,hn⟩:∃n,y.rs.length=n:=⟨_,rfl⟩;have hkn:k<n:=(by omega);rw[hn] at c0;have hl2:n≤1000:=(by omega);clear h ha hi hv hc hm hz hh hy g0 g1 g2 g3 g4 g5 g7 hn;go_enter Tryz.func33,Tryz.ntmps33;go_wp2_with fail;refine(at_yes i w HA.out hl hk HY.out H.out).mono ?_;rintro e w' ⟨rfl,rfl⟩;go_wp2_with fail;go_ret;rw[HK.out];exact⟨⟨_,_,_,rfl,OW.out,fun g e=> .inr (.inr ⟨_,List.getElem_mem hk,e⟩)⟩,rfl⟩
theorem parent_any(i:Int)(w:World)(ha:Asc y.l)(hl:y.rs.length≤1000)(h:Rf w B q y):Calls Tryz.prog 109 #[.pointer (some ⟨q,0,none⟩),.int .i64 i] w fun e w'=>e = .returned (.int .i64 (parOf y.l i))∧w=w':=by
 have H:=Zh h;have HA:=Zh ha;cases hi:hasL y.l i with
 |false=>
  have HI:=Zh hi;have HK:=Zh (no_at hi).1;clear h ha hi;go_enter Tryz.func109,Tryz.ntmps109;go_wp2_with fail;refine(at_no i w hl HI.out H.out).mono ?_;rintro e w' ⟨rfl,rfl⟩;go_wp2_with fail;go_ret;exact⟨ret_int HK.out.symm,rfl⟩
 |true=>
  obtain⟨k,hk,hy,_⟩:=rplace ha hi;have HK:=Zh (rtag_at ha hk hy).2.1;have HY:=Zh hy;obtain⟨A,c,hv,hc,hm,hz,hh⟩:=h.slice;have c0:=h.c0;rw[hv] at c0;obtain⟨b,o,rfl,hb,g0,g1,g2,g3,g4,g5,g6,g7⟩:=cell_of_nodes hh hk;obtain⟨n,hn⟩:∃n,y.rs.length=n:=⟨_,rfl⟩;have hkn:k<n:=(by omega);rw[hn] at c0;have hl2:n≤1000:=(by omega);clear h ha hi hv hc hm hz hh hy g0 g2 g3 g4 g5 g6 g7 hn;go_enter Tryz.func109,Tryz.ntmps109;go_wp2_with fail;refine(at_yes i w HA.out hl hk HY.out H.out).mono ?_;rintro e w' ⟨rfl,rfl⟩;go_wp2_with fail;go_ret;exact⟨ret_int HK.out.symm,rfl⟩
theorem up_step{l:List Nd}{f:Nat}{x:Int}(h:hasL l x=true):up (hasL l) (parOf l) (f+1) x=x:: up (hasL l) (parOf l) f (parOf l x):=by rw[up,if_pos h]
theorem up_stop{l:List Nd}{f:Nat}{x:Int}(h:hasL l x=false):up (hasL l) (parOf l) f x=[]:=by
 cases f with
 |zero=>rfl
 |succ f=>rw[up,if_neg (by rw[h];simp)]
def GotInts(w:World)(l:List Int)(e:Ending)(w':World):Prop:=∃A n c,e = .returned (.slice A n c)∧kI.Own w' w.heap.size (.slice A n c) l∧Below w.heap.size w w'
theorem up_any_(i:Int)(w:World)(ha:Asc y.l)(hl:y.rs.length≤1000)(h:Rf w B q y):Calls Tryz.prog 120 #[.pointer (some ⟨q,0,none⟩),.int .i64 i] w (GotInts w (aboveL y.l i)):=by
 have H:=Zh h;have HA:=Zh ha;obtain⟨n,hn⟩:∃n,y.rs.length=n:=⟨_,rfl⟩;have HAB:Hid (aboveL y.l i=up (hasL y.l) (parOf y.l) (n+1) i):=Zh (by unfold aboveL;rw[rl_len,hn]);obtain⟨A,c,hv,hc,hm,hz,hh⟩:=h.slice;rw[hn] at hv;have HV:=Zh hv;have hl2:n≤1000:=(by omega);have HN:=Zh hn;clear h ha hv hc hm hz hh hn;go_enter Tryz.func120,Tryz.ntmps120;go_wp2_with fail;go_loopw [1,5,6] (fun s1 s5 s6 wr=>∃(cur:Int) (j:Nat) (acc:List Int),j≤n+1∧s1 = .int .i64 cur∧s6 = .int .i64 j∧acc.length=j∧Hid (kI.Own wr w.heap.size s5 acc)∧Hid (aboveL y.l i=acc++up (hasL y.l) (parOf y.l) (n+1-j) cur)∧Hid (Below w.heap.size w wr)) (fun _ _ s6 _=>n+1-(intOf s6).toNat)
 case atStart=>exact⟨i,0,[],by omega,rfl,rfl,rfl,Zh (Kind.Own.nil _ _ _),Zh (by rw[HAB.out];rfl),Zh Ze⟩
 case round=>
  obtain⟨cur,j,acc,hj,rfl,rfl,hacc,HO,HU,HB⟩:=hrel;have HACC:=Zh hacc;clear hacc;have H1:=Zh (H.out.below HB.out);have c0:=H1.out.c0;rw[HV.out] at c0;obtain⟨A5,n5,c5,rfl,h5,_⟩:=HO.out.slice;have H5:Hid (n5=j):=Zh (by rw[←h5];exact HACC.out);clear h5;by_cases hjn:j≤n
  ·cases hc:hasL y.l cur with
   |false=>
    have HC:=Zh hc;have HE:Hid (aboveL y.l i=acc):=Zh (by rw[HU.out,up_stop hc,List.append_nil]);clear hc;go_wp2_with fail;refine(at_no cur wr hl HC.out H1.out).mono ?_;rintro e w' ⟨rfl,rfl⟩;go_wp2_with fail;go_ret;rw[HE.out];exact⟨_,_,_,rfl,HO.out,HB.out⟩
   |true=>
    obtain⟨k,hk,hy,_⟩:=rplace HA.out hc;have HC:=Zh hc;have HY:=Zh hy;have HU2:Hid (aboveL y.l i=(acc++[cur])++up (hasL y.l) (parOf y.l) (n+1-(j+1)) (parOf y.l cur)):=Zh (by
     rw[HU.out,show n+1-j=(n+1-(j+1))+1 by omega,up_step hc];simp)
    clear hc hy;have hz:=HB.out.size;have hj2:j≤1000:=(by omega);go_wp2_with fail;refine(at_yes cur wr HA.out hl hk HY.out H1.out).mono ?_;rintro e w' ⟨rfl,rfl⟩;go_wp2_with (at_builtin;refine kI.wp_app rfl _ _ rfl (v:=.slice A5 n5 c5) (l:=acc) (m:=[cur]) (B:=w.heap.size) rfl (HO.out.alloc _) rfl rfl (fun e=>by cases e) (Kind.Holds.lit (heap_alloc_new _ _) rfl) (by have:=HACC.out;simp;omega) (by simp;omega) ?_;intro v' w2 hown hgrow hat;obtain⟨A6,n6,c6,rfl,_,_,_,_,_⟩:=hown.slice);have HO2:=Zh hown;have HB2:Hid (Below w.heap.size w w2):=Zh ((HB.out.alloc hz _).grown hgrow (by simp;omega) (fun k hk=>by have:=(HO.out.lt hk).1;omega));have H2:=Zh (H.out.below HB2.out);clear hown hgrow hat;refine(parent_any cur w2 HA.out hl H2.out).mono ?_;rintro e w' ⟨rfl,rfl⟩;go_wp2_with fail;go_roundw
    case rel=>exact⟨_,j+1,acc++[cur],by omega,rfl,by go_num,by simp[HACC.out],HO2,HU2,HB2⟩
    case measure=>simp[intOf];omega
  ·have HE:Hid (aboveL y.l i=acc):=Zh (by rw[HU.out,show n+1-j=0 by omega];simp[up]);go_wp2_with fail;go_ret;rw[HE.out];exact⟨_,_,_,rfl,HO.out,HB.out⟩
theorem above_len{l:List Nd}:∀(f:Nat) (x:Int),(up (hasL l) (parOf l) f x).length≤f
 |0,_=>by simp[up]
 |f+1,x=>by
  rw[up];split
  ·simp only[List.length_cons];have:=above_len (l:=l) f (parOf l x);omega
  ·simp
theorem rinside_any(a b:Int)(w:World)(ha:Asc y.l)(hl:y.rs.length≤1000)(h:Rf w B q y):Calls Tryz.prog 85 #[.pointer (some ⟨q,0,none⟩),.int .i64 a,.int .i64 b] w fun e w'=>e = .returned (.bool (inside y.l a b))∧Below w.heap.size w w':=by
 have H:=Zh h;have HA:=Zh ha;have hlen:(aboveL y.l a).length≤1001:=(by have:=above_len (l:=y.l) (y.l.length+1) a;rw[rl_len] at this;unfold aboveL;rw[rl_len];omega);have HL:=Zh hlen;clear h ha hlen;go_enter Tryz.func85,Tryz.ntmps85;go_wp2_with fail;refine(up_any_ a w HA.out hl H.out).mono ?_;rintro e w1 ⟨A,n,c,rfl,o1,b1⟩;obtain⟨g1,g2,g3,g4,g5⟩:=own_nil_zero o1 rfl;have HN:=Zh g1;have HO:=Zh g5;have B1:=Zh b1;have hn:n≤1001:=(by have:=HL.out;omega);clear o1 b1 g1 g2 g3 g4 g5;go_wp2_with fail;go_loop [8] (fun s=>∃j:Nat,j≤n∧s = .int .i64 j∧Hid (∀m (h:m<(aboveL y.l a).length),m<j→(aboveL y.l a)[m]≠b)) (fun s=>n-(intOf s).toNat)
 case atStart=>exact⟨0,by omega,rfl,Zh (fun m _ h=>by omega)⟩
 case round=>
  obtain⟨j,hj,rfl,HJ⟩:=hrel;by_cases hjn:j<n
  ·have hjl:j<(aboveL y.l a).length:=(by have:=HN.out;omega);obtain⟨gb,go,rfl,_,hc⟩:=cell_int HO.out hjl;by_cases he:(aboveL y.l a)[j]=b
   ·have hq:((aboveL y.l a)[j]==b)=true:=(by simpa using he);have HI:Hid (inside y.l a b=true):=Zh (by unfold inside;rw[decide_eq_true_iff,←he];exact List.getElem_mem hjl);clear he;go_wp2;go_ret;exact⟨ret_bool HI.out.symm,B1.out⟩
   ·have hq:((aboveL y.l a)[j]==b)=false:=(by simpa using he);have HE:=Zh he;clear he;go_wp2;go_round
    case rel=>
     refine⟨j+1,by omega,by go_num,Zh (fun m hm hmj=>?_)⟩;by_cases e:m=j
     ·subst e;exact HE.out
     ·exact HJ.out m hm (by omega)
    case measure=>simp[intOf];omega
  ·have HI:Hid (inside y.l a b=false):=Zh (by
    unfold inside;rw[decide_eq_false_iff_not];intro hm;obtain⟨m,hm,e⟩:=List.mem_iff_getElem.1 hm;exact HJ.out m hm (by have:=HN.out;omega) e)
   go_wp2;go_ret;exact⟨ret_bool HI.out.symm,B1.out⟩
variable{B q:Nat}{y:Rx}
theorem own_lit(w:World)(i:Int):kI.Own (w.alloc (.cells #[.int .i64 i] 3)) w.heap.size (.slice (some ⟨w.heap.size,0,none⟩) 1 1) [i]:=
 Kind.own_mk (K:=kI) (cur:=#[.int .i64 i]) rfl (Zl) (heap_alloc_new w _) (Zl) (by unfold maxLen;omega) rfl rfl
theorem all_any(hTr:Tr (fun z=>hasL y.l z=true) (parOf y.l) (kidsOf y.l))(ha:Asc y.l)(hl:y.rs.length≤1000)(hsub:∀f c,hasL y.l c=true→(sub (kidsOf y.l) f c).length≤1000):
 ∀(f:Nat) (i:Int) (w:World) (_:Hb (kidsOf y.l) f i) (_:hasL y.l i=true) (_:Rf w B q y),Calls Tryz.prog 111 #[.pointer (some ⟨q,0,none⟩),.int .i64 i] w (GotInts w (sub (kidsOf y.l) f i)):=by
 intro f
 induction f with
 |zero=>intro i w hb _ _;exact hb.elim
 |succ f ih=>
  intro i w hb hi h;have IH:=Zh ih;have HB0:=Zh hb;have H:=Zh h;have HA:=Zh ha;have HT:=Zh hTr;have HS:=Zh hsub;have HI:=Zh hi;obtain⟨k,hk,hy,_⟩:=rplace ha hi;have HY:=Zh hy;clear h ha hi hy ih hb hTr hsub;go_enter Tryz.func111,Tryz.ntmps111;go_wp2_with fail;refine(at_yes i w HA.out hl hk HY.out H.out).mono ?_;rintro e w' ⟨rfl,rfl⟩;go_wp2_with fail;have O1:Hid (kI.Own (w.alloc (.cells #[.int .i64 i] 3)) w.heap.size (.slice (some ⟨w.heap.size,0,none⟩) 1 1) [i]):=Zh (own_lit w i);have B1:Hid (Below w.heap.size w (w.alloc (.cells #[.int .i64 i] 3))):=Zh (Zb _ _);generalize w.alloc (.cells #[.int .i64 i] 3)=W at O1 B1⊢;refine(kids_any i W HA.out hl (H.out.below B1.out)).mono ?_;rintro e w' ⟨⟨A,n,c,rfl,ok0,okf⟩,rfl⟩;have ok:=ok0.keep (w':=w) (fun g hg=>(B1.out.block g (H.out.lt (okf g hg))).symm);obtain⟨g1,g2,g3,g4,g5⟩:=own_nil_zero ok rfl;have HN:=Zh g1;have HK:=Zh g5;have hn:n≤1000:=by
   have h1:=nodup_len (kidsOf y.l i) (idsOf y.l) (HT.out.nod i) (fun c hc=>has_ids.1 (HT.out.kid i c hc).2.1);simp only[idsOf,List.length_map,Rx.l] at h1;have:=HN.out;simp only[Rx.l] at this;omega
  have hz1:=B1.out.size;clear ok ok0 okf g1 g2 g3 g4 g5;go_wp2_with fail;go_loopw [5,7] (fun s5 s7 wr=>∃j:Nat,j≤n∧s7 = .int .i64 j∧Hid (kI.Own wr w.heap.size s5 (i:: upto (kidsOf y.l) f i j))∧Hid (Below w.heap.size w wr)) (fun _ s7 _=>n-(intOf s7).toNat)
  case atStart=>exact⟨0,by omega,rfl,Zh (by simpa[upto] using O1.out),B1⟩
  case round=>
   obtain⟨j,hj,rfl,HO,HW⟩:=hrel;obtain⟨A5,n5,c5,rfl,h5,_⟩:=HO.out.slice;by_cases hjn:j<n
   ·have hjl:j<(kidsOf y.l i).length:=(by have:=HN.out;omega);obtain⟨gb,go,rfl,_,hc⟩:=cell_int (HK.out.on HW.out) hjl;have hkid:=HT.out.kid i _ (List.getElem_mem hjl);have IHJ:=Zh (IH.out (kidsOf y.l i)[j] wr (HB0.out _ (List.getElem_mem hjl)) hkid.2.1 (H.out.below HW.out));have HSL:Hid ((i:: upto (kidsOf y.l) f i (j+1)).length≤1000):=Zh (by
     have h1:=HS.out (f+1) i HI.out;rw[sub] at h1;have h2:(upto (kidsOf y.l) f i (j+1)).length≤((kidsOf y.l i).flatMap (sub (kidsOf y.l) f)).length:=by
      unfold upto;have e:(kidsOf y.l i).flatMap (sub (kidsOf y.l) f)=((kidsOf y.l i).take (j+1)).flatMap (sub (kidsOf y.l) f)++((kidsOf y.l i).drop (j+1)).flatMap (sub (kidsOf y.l) f):=(by rw[←List.flatMap_append,List.take_append_drop]);rw[e,List.length_append];omega
     simp only[List.length_cons] at h1⊢;omega)
    have HUS:=Zh (upto_succ (f:=f) hjl);generalize (kidsOf y.l i)[j]=kd at hc IHJ HUS;clear hkid h5;go_wp2_with fail;refine IHJ.out.mono ?_;rintro e w2 ⟨A6,n6,c6,rfl,o6,b6⟩;obtain⟨k1,k2,k3,k4,k5⟩:=own_nil_zero o6 rfl;have K1:=Zh k1;have K4:Hid (A6=none→c6=0):=Zh (fun e=>(k4 e).1);have K5:=Zh k5;have HO2:=Zh (HO.out.below b6 (Zl));have B6:=Zh (HW.out.trans (b6.mono HW.out.size));have hz6:=B6.out.size;clear o6 b6 k1 k2 k3 k4 k5;go_wp2_with (at_builtin;refine kI.wp_app rfl _ _ rfl (v:=.slice A5 n5 c5) (l:=i:: upto (kidsOf y.l) f i j) (m:=sub (kidsOf y.l) f kd) (B:=w.heap.size) rfl HO2.out rfl K1.out K4.out K5.out (by have h1:=HSL.out;rw[HUS.out] at h1;simp only[List.length_cons,List.length_append] at h1⊢;have:=K1.out;omega) (by omega) ?_;intro v' w3 hown hgrow hat;obtain⟨A7,n7,c7,rfl,_,_,_,_,_⟩:=hown.slice);have HO3:Hid (kI.Own w3 w.heap.size (.slice A7 n7 c7) (i:: upto (kidsOf y.l) f i (j+1))):=Zh (by rw[HUS.out];exact hown);have HW3:Hid (Below w.heap.size w w3):=Zh (B6.out.grown hgrow (by have:=B6.out.size;omega) (fun k hk=>(HO2.out.lt hk).1));clear hown hgrow hat;go_wp2_with fail;go_roundw
    case rel=>exact⟨j+1,by omega,by go_num,HO3,HW3⟩
    case measure=>simp[intOf];omega
   ·have HE:Hid (i:: upto (kidsOf y.l) f i j=sub (kidsOf y.l) (f+1) i):=Zh (by rw[sub,←upto_all,show j=(kidsOf y.l i).length by have:=HN.out;omega]);go_wp2_with fail;go_ret;exact⟨_,_,_,rfl,by rw[←HE.out];exact HO.out,HW.out⟩
theorem Kind.Own.setE{P:Program}{α:Type}{K:Kind P α}{w:World}{g n c:Nat}{l:List α}(h:K.Own w B (.slice (some ⟨g,0,none⟩) n c) l){k:Nat}(hk:k<l.length)(a:α):
 K.Own (w.setCells g (k*K.size) (K.cs a)) B (.slice (some ⟨g,0,none⟩) n c) (l.set k a):=by
 rcases h.form with⟨hv,_⟩|⟨g',c',cur,hv,_,hBg,hlt,hh,hnc,hcm,hcs,ht⟩
 ·cases hv
 injection hv with e1 e2 e3;injection e1 with e1;injection e1 with e1;subst e1;subst e2;subst e3;obtain⟨cur',h1,h2,h3⟩:=heap_setCells g (K.cs a) (k*K.size) w cur _ _ hh;have hmul:l.length*K.size≤c*K.size:=Nat.mul_le_mul_right _ hnc;have hkm:(k+1)*K.size≤l.length*K.size:=Nat.mul_le_mul_right _ hk;have hkm2:(k+1)*K.size=k*K.size+K.size:=(by rw[Nat.add_mul,Nat.one_mul]);refine Kind.own_mk (by simp) hBg h1 hnc hcm (by rw[h2];exact hcs) ?_;apply List.ext_getElem?;intro i;have hpos:=K.hpos;rw[List.getElem?_take];by_cases hi:i<l.length*K.size
 ·rw[if_pos hi,Array.getElem?_toList,h3 i (by omega),K.len];have hdm:i/K.size*K.size+i % K.size=i:=(by rw[Nat.mul_comm];exact Nat.div_add_mod i K.size);have hmod:i % K.size<K.size:=Nat.mod_lt _ hpos;have hdiv:i/K.size<l.length:=(by rw[Nat.div_lt_iff_lt_mul hpos];exact hi);have hat:=K.cells_at (l.set k a) (i/K.size) (by simpa using hdiv) (i % K.size) hmod;rw[hdm] at hat;rw[hat,List.getElem_set];by_cases hik:k=i/K.size
  ·subst hik;rw[if_pos rfl,if_pos ⟨by omega,by omega⟩];congr 1;omega
  ·rw[if_neg hik];have hat2:=K.cells_at l (i/K.size) hdiv (i % K.size) hmod;rw[hdm] at hat2;rw[←hat2,←ht,List.getElem?_take,if_pos hi,if_neg ?_,Array.getElem?_toList];rintro⟨h5,h6⟩;apply hik;have h7:k≤i/K.size:=(by rw[Nat.le_div_iff_mul_le hpos];exact h5);have h8:i/K.size<k+1:=(by rw[Nat.div_lt_iff_lt_mul hpos];omega);omega
 ·rw[if_neg hi,List.getElem?_eq_none];rw[Kind.cells_len,List.length_set];omega
structure Rset(w:World)(B q:Nat)(y y':Rx)(r:Rn)(w':World):Prop where
 rf:Rf w' B q y'
 but:But (fun k=>k=q) w w'
 ft:∀k,rfoot q y' k→rfoot q y k∨r.vk.val.ownBlock=some k∨w.heap.size≤k
theorem Rset.did{w0 w w':World}{y':Rx}{r:Rn}(h:Rset w B q y y' r w')(hb:Below w0.heap.size w0 w)(hg:∀g,r.vk.val.ownBlock=some g→rfoot q y g∨w0.heap.size≤g):Rdid w0 B q y y' w':=by
 refine⟨h.rf,(But.of_below hb _).trans h.but (fun _ _ h=>h),fun k hk=>?_⟩;have:=hb.size;rcases h.ft k hk with e|e|e
 ·exact .inl e
 ·exact hg k e
 ·exact .inr (by omega)
def Set5(w:World)(B q:Nat)(y:Rx)(k:Nat)(r:Rn)(e:Ending)(w':World):Prop:=e = .returned (.tuple #[])∧∃v,Rset w B q y {y with v:=v,rs:=y.rs.set k r} r w'
theorem set_end{w w2 w':World}(h:Rf w B q y){k:Nat}(hk:k<y.rs.length){r:Rn}(hr:RNok w B r){g c:Nat}(hb:Below w.heap.size w w2)
 (ho:kN.Own w2 (w.heap.size+1) (.slice (some ⟨g,0,none⟩) y.rs.length c) (y.rs.map Rn.rn)) (hw:w'=(w2.setCells g (k*8) r.rn.cells).drew.setCell ⟨q,0,none⟩ (.slice (some ⟨g,0,none⟩) y.rs.length c)):
 Rset w B q y {y with v:=.slice (some ⟨g,0,none⟩) y.rs.length c,rs:=y.rs.set k r} r w':=by
 have hq:=heap_lt h.blk;have hg:=(ho.lt (g:=g) rfl).1;have hb3:Below w.heap.size w (w2.setCells g (k*8) r.rn.cells).drew:=by
  have:=But.setCells (S:=fun i=>i=g) (a:=w2) (g:=g) (But.refl _ _) (fun _=>rfl) (k*8) r.rn.cells;exact(hb.trans (this.to_below (fun i _ hi=>by omega) hb.size)).drew
 have ho3:kN.Own (w2.setCells g (k*8) r.rn.cells).drew (w.heap.size+1) (.slice (some ⟨g,0,none⟩) y.rs.length c) ((y.rs.map Rn.rn).set k r.rn):=(Kind.Own.setE (K:=kN) ho (k:=k) (by simpa using hk) r.rn).drew;generalize (w2.setCells g (k*8) r.rn.cells).drew=W at hw hb3 ho3;have hbut:But (fun k=>k=q) w w':=by
  rw[hw];exact But.setCell (S:=fun k=>k=q) (p:=⟨q,0,none⟩) (But.of_below hb3 _) (fun _=>rfl) _
 have hmap:(y.rs.map Rn.rn).set k r.rn=(y.rs.set k r).map Rn.rn:=(by rw[List.map_set]);rw[hmap] at ho3;have hnA:=q_noA h;have hkq:∀s:Rn,(hs:RNok w B s)→∀i,s.vk.val.ownBlock=some i→i≠q:=by
  rintro s hs i hi rfl;obtain⟨d,hd⟩:=hs.kids.ty hi;exact heap_ne hd h.blk (by decide) rfl
 have hok:∀s:Rn,RNok w B s→RNok w' B s:=fun s hs=>
  ⟨hs.att.but hbut hnA,hs.kids.keep (fun i hi=>hbut.block i (hs.kids.lt hi).2 (hkq s hs i hi))⟩
 refine⟨⟨by rw[hw];exact heap_set ((hb3.block q hq).trans h.blk) 0 _,h.base,?_,fun s hs=>?_⟩,hbut,fun i hi=>?_⟩
 ·rw[hw];refine(ho3.keep fun i hi=>Below.heap_setCell _ _ _ _ ?_).base_le (by have:=h.base;omega);rintro rfl;have:=(ho3.lt hi).1;omega
 ·rcases mem_set_ (show s∈y.rs.set k r from hs) with rfl|⟨j,hj,_,rfl⟩
  ·exact hok _ hr
  ·exact hok _ (h.nodes _ (List.getElem_mem hj))
 ·rcases hi with e|e|⟨s,hs,e⟩
  ·exact .inl (.inl e)
  ·simp only[Value.ownBlock,Option.some.injEq] at e;exact .inr (.inr (by omega))
  ·rcases mem_set_ (show s∈y.rs.set k r from hs) with rfl|⟨j,hj,_,rfl⟩
   ·exact .inr (.inl e)
   ·exact .inl (.inr (.inr ⟨_,List.getElem_mem hj,e⟩))
theorem set_any(k:Nat)(nd:Nd)(A:Option Addr)(n c:Nat)(A2:Option Addr)(n2 c2:Nat)(w:World)(ha:Asc y.l)(hl:y.rs.length≤1000)(hk:k<y.rs.length)(hi:y.rs[k].nd.id=nd.id)(hr:RNok w B ⟨⟨A,n,c⟩,⟨A2,n2,c2⟩,nd⟩)
 (h:Rf w B q y):Calls Tryz.prog 71 #[.pointer (some ⟨q,0,none⟩),.agg #[.int .i64 nd.id,.int .i64 nd.par,.string nd.tag,.string nd.txt,.string nd.key,.slice A n c,.slice A2 n2 c2,.int .i64 nd.note]] w (Set5 w B q y k ⟨⟨A,n,c⟩,⟨A2,n2,c2⟩,nd⟩):=by
 have H:=Zh h;have HA:=Zh ha;have HR:=Zh hr;have HI:=Zh hi;obtain⟨AL,cL,hv,hc,hm,hz,hh⟩:=h.slice;have HV:=Zh hv;have HZ:=Zh hz;have HH:=Zh hh;have c0:=h.c0;rw[hv] at c0;have hqlt:=heap_lt h.blk;obtain⟨nl,hnl⟩:∃nl,y.rs.length=nl:=⟨_,rfl⟩;have HNL:=Zh hnl;rw[hnl] at c0;have hnl2:nl≤1000:=(by omega);have hknl:k<nl:=(by omega);have f0:=h.frozen 0;have OM:Hid (kN.Own ((w.alloc (.cells #[.int .i64 nd.id,.int .i64 nd.par,.string nd.tag,.string nd.txt,.string nd.key,.slice A n c,.slice A2 n2 c2,.int .i64 nd.note] 48)).alloc (.cells #[] 48)) (w.heap.size+1) (.slice (some ⟨w.heap.size+1,0,none⟩) 0 0) []):=Zh (by
  have:=Kind.Own.made kN (w.alloc (.cells #[.int .i64 nd.id,.int .i64 nd.par,.string nd.tag,.string nd.txt,.string nd.key,.slice A n c,.slice A2 n2 c2,.int .i64 nd.note] 48)) (w.heap.size+1) (by simp);rw[show(w.alloc (.cells #[.int .i64 nd.id,.int .i64 nd.par,.string nd.tag,.string nd.txt,.string nd.key,.slice A n c,.slice A2 n2 c2,.int .i64 nd.note] 48)).heap.size=w.heap.size+1 by simp] at this;exact this)
 have BM:Hid (Below w.heap.size w ((w.alloc (.cells #[.int .i64 nd.id,.int .i64 nd.par,.string nd.tag,.string nd.txt,.string nd.key,.slice A n c,.slice A2 n2 c2,.int .i64 nd.note] 48)).alloc (.cells #[] 48))):=Zh ((Zb _ _).alloc (by simp) _);have N0:Hid (NdB ((w.alloc (.cells #[.int .i64 nd.id,.int .i64 nd.par,.string nd.tag,.string nd.txt,.string nd.key,.slice A n c,.slice A2 n2 c2,.int .i64 nd.note] 48)).alloc (.cells #[] 48)) w.heap.size nd A n c A2 n2 c2):=Zh (heap_up (NdB.new w nd A n c A2 n2 c2));clear h ha hr hi hv hc hm hz hh hnl;go_enter Tryz.func71,Tryz.ntmps71;go_wp2_with (at_builtin;refine kN.wp_app rfl _ _ rfl (v:=.slice (some ⟨w.heap.size+1,0,none⟩) 0 0) (l:=[]) (m:=y.rs.map Rn.rn) (B:=w.heap.size+1) rfl OM.out rfl (by rw[List.length_map];exact HNL.out) HZ.out (HH.out.on BM.out) (by simp;omega) (by simp) ?_;intro v' w2 hown hgrow hat);have hown2:kN.Own w2 (w.heap.size+1) v' (y.rs.map Rn.rn):=(by simpa using hown);obtain⟨gN,cN,rfl⟩:∃g c,v' = .slice (some ⟨g,0,none⟩) nl c:=by
  rcases hown2.form with⟨_,hn⟩|⟨g,c,cur,rfl,_⟩
  ·have:(y.rs.map Rn.rn).length=0:=(by rw[hn];rfl);rw[List.length_map] at this;omega
  ·exact⟨g,c,by rw[List.length_map,HNL.out]⟩
 have HO:=Zh hown2;have B2:Hid (Below w.heap.size w w2):=Zh (BM.out.grown hgrow (by simp;omega) (fun k hk=>by simp only[Value.ownBlock,Option.some.injEq] at hk;omega));have hgN:w.heap.size+1≤gN:=(hown2.lt (g:=gN) rfl).1;have hgN2:gN<w2.heap.size:=(hown2.lt (g:=gN) rfl).2;have hkc:nl≤cN:=by
  obtain⟨A',n',c',hv,_,h2,_⟩:=hown2.slice;injection hv with e1 e2 e3;omega
 have N2:Hid (NdB w2 w.heap.size nd A n c A2 n2 c2):=Zh ((hgrow.block _ (by simp;omega) (by simp[Value.ownBlock])).trans N0.out);have RF2:=Zh (H.out.below B2.out);have e0:=N2.out.c0;have e1:=N2.out.c1;have e2:=N2.out.c2;have e3:=N2.out.c3;have e4:=N2.out.c4;have e5:=N2.out.c5;have e6:=N2.out.c6;have e7:=N2.out.c7;clear hown hgrow hat hown2 OM BM N0;have hge:w.heap.size≠gN:=(by omega);have hge':gN≠w.heap.size:=(by omega);have hqg:gN≠q:=(by omega);have far:∀(W:World) (i j:Nat) (v:Value),(W.setCell ⟨gN,i,none⟩ v).cell? ⟨w.heap.size,j,none⟩=W.cell? ⟨w.heap.size,j,none⟩:=fun W i j v=>World.cell?_setCell_far _ _ _ _ hge'
 have T2:w2.there gN (k*8) 8:=by
  obtain⟨A',n',c',hv,_⟩:=HO.out.slice;rcases HO.out.form with⟨hv,_⟩|⟨g',c',cur,hv,_,_,_,hh,_,_,hcs,_⟩
  ·cases hv
  injection hv with e1 e2 e3;injection e1 with e1;injection e1 with e1;subst e1;subst e3;intro j hj;have hj2:k*8+j<cur.size:=(by rw[hcs];show k*8+j<cN*8;omega);exact⟨by rw[cell_of_row w2 gN (k*8+j) _ _ (0,0) hh,Array.getElem?_eq_getElem hj2];rfl,by simp[World.frozen?,hh]⟩
 obtain⟨⟨u0,g0⟩,f0'⟩:(∃u,w2.cell? ⟨gN,k*8,none⟩=some u)∧w2.frozen? ⟨gN,k*8,none⟩=false:=⟨Option.isSome_iff_exists.1 (T2 0 (by omega)).1,(T2 0 (by omega)).2⟩;obtain⟨⟨u1,g1⟩,f1'⟩:(∃u,w2.cell? ⟨gN,k*8+1,none⟩=some u)∧w2.frozen? ⟨gN,k*8+1,none⟩=false:=⟨Option.isSome_iff_exists.1 (T2 1 (by omega)).1,(T2 1 (by omega)).2⟩;obtain⟨⟨u2,g2⟩,f2'⟩:(∃u,w2.cell? ⟨gN,k*8+2,none⟩=some u)∧w2.frozen? ⟨gN,k*8+2,none⟩=false:=⟨Option.isSome_iff_exists.1 (T2 2 (by omega)).1,(T2 2 (by omega)).2⟩;obtain⟨⟨u3,g3⟩,f3'⟩:(∃u,w2.cell? ⟨gN,k*8+3,none⟩=some u)∧w2.frozen? ⟨gN,k*8+3,none⟩=false:=⟨Option.isSome_iff_exists.1 (T2 3 (by omega)).1,(T2 3 (by omega)).2⟩;obtain⟨⟨u4,g4⟩,f4'⟩:(∃u,w2.cell? ⟨gN,k*8+4,none⟩=some u)∧w2.frozen? ⟨gN,k*8+4,none⟩=false:=⟨Option.isSome_iff_exists.1 (T2 4 (by omega)).1,(T2 4 (by omega)).2⟩;obtain⟨⟨u5,g5⟩,f5'⟩:(∃u,w2.cell? ⟨gN,k*8+5,none⟩=some u)∧w2.frozen? ⟨gN,k*8+5,none⟩=false:=⟨Option.isSome_iff_exists.1 (T2 5 (by omega)).1,(T2 5 (by omega)).2⟩;obtain⟨⟨u6,g6⟩,f6'⟩:(∃u,w2.cell? ⟨gN,k*8+6,none⟩=some u)∧w2.frozen? ⟨gN,k*8+6,none⟩=false:=⟨Option.isSome_iff_exists.1 (T2 6 (by omega)).1,(T2 6 (by omega)).2⟩;obtain⟨⟨u7,g7⟩,f7'⟩:(∃u,w2.cell? ⟨gN,k*8+7,none⟩=some u)∧w2.frozen? ⟨gN,k*8+7,none⟩=false:=⟨Option.isSome_iff_exists.1 (T2 7 (by omega)).1,(T2 7 (by omega)).2⟩;clear T2;go_region_held3 (fun w'=>w'.cell? ⟨w.heap.size,0,none⟩=some (.int .i64 nd.id)∧w'.cell? ⟨w.heap.size,1,none⟩=some (.int .i64 nd.par)∧w'.cell? ⟨w.heap.size,2,none⟩=some (.string nd.tag)∧w'.cell? ⟨w.heap.size,3,none⟩=some (.string nd.txt)∧
  w'.cell? ⟨w.heap.size,4,none⟩=some (.string nd.key)∧w'.cell? ⟨w.heap.size,5,none⟩=some (.slice A n c)∧w'.cell? ⟨w.heap.size,6,none⟩=some (.slice A2 n2 c2)∧w'.cell? ⟨w.heap.size,7,none⟩=some (.int .i64 nd.note)) (first|go_keep|(simp only[World.cell?_drew,far];exact⟨e0,e1,e2,e3,e4,e5,e6,e7⟩)) ((first
  |(go_at_call 14;refine(at_yes nd.id _ HA.out hl hk HI.out (by exact RF2.out.drewN _)).mono ?_;rintro e w3 ⟨rfl,rfl⟩)
  |fail))
 have hW:((((((((w2.setCell ⟨gN,k*8,none⟩ (.int .i64 nd.id)).setCell ⟨gN,k*8+1,none⟩ (.int .i64 nd.par)).setCell ⟨gN,k*8+2,none⟩ (.string nd.tag)).setCell ⟨gN,k*8+3,none⟩ (.string nd.txt)).setCell ⟨gN,k*8+4,none⟩ (.string nd.key)).setCell ⟨gN,k*8+5,none⟩ (.slice A n c)).setCell ⟨gN,k*8+6,none⟩ (.slice A2 n2 c2)).setCell ⟨gN,k*8+7,none⟩ (.int .i64 nd.note)).drew=(w2.setCells gN (k*8) (Rn.rn ⟨⟨A,n,c⟩,⟨A2,n2,c2⟩,nd⟩).cells).drew:=rfl;generalize ((((((((w2.setCell ⟨gN,k*8,none⟩ (.int .i64 nd.id)).setCell ⟨gN,k*8+1,none⟩ (.int .i64 nd.par)).setCell ⟨gN,k*8+2,none⟩ (.string nd.tag)).setCell ⟨gN,k*8+3,none⟩ (.string nd.txt)).setCell ⟨gN,k*8+4,none⟩ (.string nd.key)).setCell ⟨gN,k*8+5,none⟩ (.slice A n c)).setCell ⟨gN,k*8+6,none⟩ (.slice A2 n2 c2)).setCell ⟨gN,k*8+7,none⟩ (.int .i64 nd.note)).drew=W at hW⊢;have b3:Below w.heap.size w W:=by
  rw[hW];have:=But.setCells (S:=fun i=>i=gN) (a:=w2) (g:=gN) (But.refl _ _) (fun _=>rfl) (k*8) (Rn.rn ⟨⟨A,n,c⟩,⟨A2,n2,c2⟩,nd⟩).cells;exact(B2.out.trans (this.to_below (fun i _ hi=>by omega) B2.out.size)).drew
 have d0:W.cell? ⟨q,0,none⟩=some (.slice AL nl cL):=(b3.cell (by exact hqlt)).trans c0;have d1:W.frozen? ⟨q,0,none⟩=false:=(H.out.below b3).frozen 0;have HW:=Zh hW;clear hW b3 e0 e1 e2 e3 e4 e5 e6 e7 g0 g1 g2 g3 g4 g5 g6 g7 f0' f1' f2' f3' f4' f5' f6' f7' far;go_wp2_with fail;refine bodyPost_ret (results_none rfl _ _ _) rfl ?_;refine⟨rfl,_,set_end H.out hk HR.out B2.out (g:=gN) (c:=cN) (by rw[HNL.out];exact HO.out) ?_⟩;rw[←HW.out,HNL.out]
variable{B q:Nat}{y:Rx}
structure Lies(w:World)(b o:Nat)(nd:Nd)(A:Option Addr)(n c:Nat)(A2:Option Addr)(n2 k2:Nat):Prop where
 c0:w.cell? ⟨b,o,none⟩=some (.int .i64 nd.id)
 c1:w.cell? ⟨b,o+1,none⟩=some (.int .i64 nd.par)
 c2:w.cell? ⟨b,o+2,none⟩=some (.string nd.tag)
 c3:w.cell? ⟨b,o+3,none⟩=some (.string nd.txt)
 c4:w.cell? ⟨b,o+4,none⟩=some (.string nd.key)
 c5:w.cell? ⟨b,o+5,none⟩=some (.slice A n c)
 c6:w.cell? ⟨b,o+6,none⟩=some (.slice A2 n2 k2)
 c7:w.cell? ⟨b,o+7,none⟩=some (.int .i64 nd.note)
theorem Rf.lies{w:World}(h:Rf w B q y){k:Nat}(hk:k<y.rs.length):∃b o c A n ca A2 n2 c2,y.v = .slice (some ⟨b,o,none⟩) y.rs.length c∧y.rs.length≤c∧b<w.heap.size∧w.cell? ⟨q,0,none⟩=some (.slice (some ⟨b,o,none⟩) y.rs.length c)∧Lies w b (o+k*8) y.rs[k].nd A n ca A2 n2 c2∧y.rs[k].va=⟨A,n,ca⟩∧y.rs[k].vk=⟨A2,n2,c2⟩:=by
 obtain⟨A,c,hv,hc,hm,hz,hh⟩:=h.slice;obtain⟨b,o,rfl,hb,g0,g1,g2,g3,g4,g5,g6,g7⟩:=cell_of_nodes hh hk;have c0:=h.c0;rw[hv] at c0;exact⟨b,o,c,_,_,_,_,_,_,hv,hc,hb,c0,⟨g0,g1,g2,g3,g4,g5,g6,g7⟩,rfl,rfl⟩
theorem less_take{i:Int}{l:List Int}{j:Nat}(hj:j<l.length):less i (l.take (j+1))=if l[j]=i then less i (l.take j) else less i (l.take j)++[l[j]]:=by
 unfold less;rw[List.take_succ_eq_append_getElem hj,List.filter_append];by_cases e:l[j]=i
 ·rw[if_pos e];simp[e]
 ·rw[if_neg e];simp[e]
theorem two_set{l:List Nd}(h:Asc l){k k2:Nat}(hk:k<l.length)(hk2:k2<l.length)(hne:k2≠k)(f g:Nd→Nd)(hf:∀x,(f x).id=x.id):
 (l.set k2 (f l[k2])).set k (g l[k])=upd (upd l l[k2].id f) l[k].id g∧Asc (l.set k2 (f l[k2])):=by
 have e1:=h.set_upd hk2 f;have e2:(l.set k2 (f l[k2]))[k]'(by simpa using hk)=l[k]:=List.getElem_set_ne hne _;have hA:Asc (l.set k2 (f l[k2])):=asc_of_ids h (by
  unfold idsOf;rw[List.map_set,hf];apply List.ext_getElem
  ·simp
  ·intro j h1 h2;rw[List.getElem_set];by_cases e:k2=j
   ·subst e;rw[if_pos rfl,List.getElem_map]
   ·rw[if_neg e])
 have:=hA.set_upd (k:=k) (by simpa using hk) g;rw[e2] at this;exact⟨by rw[this,e1],hA⟩
theorem NdB.noA{w:World}{g:Nat}{nd:Nd}{A:Option Addr}{n c:Nat}{A2:Option Addr}{n2 k2:Nat}(h:NdB w g nd A n c A2 n2 k2):NoA w (fun k=>k=g):=by
 rintro k cu f rfl hk;exact heap_ne h hk (by decide) rfl
theorem Rf.set_out{w:World}(h:Rf w B q y){g:Nat}(hf:¬rfoot q y g)(hA:NoA w (fun k=>k=g))(j:Nat)(u:Value):Rf (w.setCell ⟨g,j,none⟩ u) B q y:=
 h.but (But.setCell (S:=fun k=>k=g) (p:=⟨g,j,none⟩) (But.refl _ _) (fun _=>rfl) u) (fun k hk e=>hf (e▸hk)) hA
theorem Rdid.set_out{w w':World}{y':Rx}(h:Rdid w B q y y' w'){g:Nat}(hge:w.heap.size≤g)(hf:¬rfoot q y' g)(hA:NoA w' (fun k=>k=g))(j:Nat)(u:Value):Rdid w B q y y' (w'.setCell ⟨g,j,none⟩ u):=
 ⟨h.rf.set_out hf hA j u,But.setCell (S:=fun k=>k=q) (p:=⟨g,j,none⟩) h.but (fun e=>by simp only at e;omega) u,h.ft⟩
def RLeft(w:World)(B q:Nat)(y:Rx)(i:Int)(e:Ending)(w':World):Prop:=e = .returned (.tuple #[])∧∃v rs',Rdid w B q y {y with v:=v,rs:=rs'} w'∧rs'.map (·.nd)=leaveL y.l i
theorem rleave_any(i:Int)(w:World)(hwf:WF y.d)(hi:hasL y.l i=true)(h:Rf w B q y):Calls Tryz.prog 110 #[.pointer (some ⟨q,0,none⟩),.int .i64 i] w (RLeft w B q y i):=by
 have HA:Hid (Asc y.l):=Zh hwf.asc;have HT:Hid (Tr (fun z=>hasL y.l z=true) (parOf y.l) (kidsOf y.l)):=Zh hwf.tr;have HWF:=Zh hwf;have H:=Zh h;have hl:y.rs.length≤1000:=(by have:=hwf.len200;rw[show y.d.l=y.l from rfl,rl_len] at this;omega);obtain⟨k,hk,hy,_⟩:=rplace HA.out hi;have hpar:=(rtag_at HA.out hk hy).2.1;obtain⟨b,o,cl,A,n,ca,A2,n2,c2,hv,hcl,hb,d0,L,hva,hvk⟩:=h.lies hk;have HVA:=Zh hva;have HVK:=Zh hvk;have HY:=Zh hy;obtain⟨nl,hnl⟩:∃nl,y.rs.length=nl:=⟨_,rfl⟩;have HNL:=Zh hnl;have hkn:k<nl:=(by omega);have hl2:nl≤1000:=(by omega);rw[hnl] at d0 hcl;obtain⟨m,hm⟩:∃m,y.rs[k].nd=m:=⟨_,rfl⟩;have HM:=Zh hm;rw[hm] at L hpar hy;have HP:=Zh hpar;have HI:=Zh hi;have l0:=L.c0;have l1:=L.c1;have l2:=L.c2;have l3:=L.c3;have l4:=L.c4;have l5:=L.c5;have l6:=L.c6;have l7:=L.c7;have hqlt:=heap_lt h.blk;clear h hv hva hvk hnl hm hpar L hwf hi hy;go_enter Tryz.func110,Tryz.ntmps110;go_upto_region 0 with fail;go_cut [4] (fun s4 wx=>s4 = .pointer (some ⟨w.heap.size,0,none⟩)∧Hid (Below w.heap.size w wx)∧Hid (NdB wx w.heap.size m A n ca A2 n2 c2))
 case first=>
  go_region_held3 (fun w'=>w'.cell? ⟨q,0,none⟩=some (.slice (some ⟨b,o,none⟩) nl cl)∧w'.cell? ⟨b,o+k*8,none⟩=some (.int .i64 m.id)∧w'.cell? ⟨b,o+k*8+1,none⟩=some (.int .i64 m.par)∧w'.cell? ⟨b,o+k*8+2,none⟩=some (.string m.tag)∧w'.cell? ⟨b,o+k*8+3,none⟩=some (.string m.txt)∧w'.cell? ⟨b,o+k*8+4,none⟩=some (.string m.key)∧w'.cell? ⟨b,o+k*8+5,none⟩=some (.slice A n ca)∧w'.cell? ⟨b,o+k*8+6,none⟩=some (.slice A2 n2 c2)∧w'.cell? ⟨b,o+k*8+7,none⟩=some (.int .i64 m.note)) (go_keep) ((first
  |(go_at_call 14;refine(at_yes i _ HA.out hl hk HY.out (by exact H.out.drewN _)).mono ?_;rintro e w3 ⟨rfl,rfl⟩)
  |(go_at_call 14;refine(at_yes i _ HA.out hl hk HY.out (by exact(H.out.alloc _).drewN _)).mono ?_;rintro e w3 ⟨rfl,rfl⟩)
  |fail))
  all_goals
   go_wp2_with fail;go_meet;exact⟨rfl,Zh ((Zb _ _).drew),Zh (heap_drew (NdB.new w m A n ca A2 n2 c2))⟩
 case rest=>
  obtain⟨rfl,B1,N1⟩:=hcut;obtain⟨w1,rfl⟩:∃w1,w1=wc:=⟨_,rfl⟩;have e1:=N1.out.c1;have hz1:w.heap.size<w1.heap.size:=N1.out.lt;clear d0 l0 l1 l2 l3 l4 l5 l6 l7 hcl hb;by_cases hq0:m.par=0
  ·have HE:Hid (leaveL y.l i=y.l):=Zh (by unfold leaveL;rw[HP.out,if_pos hq0]);have hqq:(m.par==0)=true:=(by simpa using hq0);clear hq0;go_wp2_with fail;refine bodyPost_ret (results_none rfl _ _ _) rfl ?_;exact⟨rfl,y.v,y.rs,Rdid.below_ H.out B1.out,HE.out.symm⟩
  ·have hqq:(m.par==0)=false:=(by simpa using hq0);have hpm:hasL y.l m.par=true:=(by rw[←HP.out];exact HT.out.hpar (by rw[HP.out];exact hq0));obtain⟨k2,hk2,hy2,_⟩:=rplace HA.out hpm;have HY2:=Zh hy2;have HKD:=Zh (rtag_at HA.out hk2 hy2).2.2;have hne:k2≠k:=by
    rintro rfl;refine HT.out.no_cycle (x:=i) (j:=0) (HT.out.ne0 HI.out) ?_;show parOf y.l i=i;rw[HP.out,←hy2,HY.out]
   have HNE:=Zh hne;have HE:Hid (leaveL y.l i=upd (upd y.l m.par (withKids (less i))) i (withPar 0)):=Zh (by unfold leaveL;rw[HP.out,if_neg hq0]);have H1:=Zh (H.out.below B1.out);have hkl:y.rs[k2].nd.kids.length≤1000:=(by have:=HWF.out.kids_len (x:=y.rs[k2].nd) (List.mem_map.2 ⟨_,List.getElem_mem hk2,rfl⟩);omega);obtain⟨b,o,cl,Ap,np,cap,A2p,n2p,c2p,hv,hcl,hb,d0,L,hvap,hvkp⟩:=H1.out.lies hk2;have OK:kI.Own w B (.slice A2p n2p c2p) y.rs[k2].nd.kids:=(by have:=(H.out.nodes _ (List.getElem_mem hk2)).kids;rw[hvkp] at this;exact this);have HVAP:=Zh hvap;have HVKP:=Zh hvkp;obtain⟨g1,g2,g3,g4,g5⟩:=own_nil_zero OK rfl;have OKH:=Zh OK;have HK:=Zh g5;have HN:=Zh g1;rw[HNL.out] at d0 hcl;have hkn2:k2<nl:=(by have:=HNL.out;omega);obtain⟨mp,hmp⟩:∃m,y.rs[k2].nd=m:=⟨_,rfl⟩;have HMP:=Zh hmp;rw[hmp] at L hkl;have hn2p:n2p≤1000:=(by have:=HN.out;rw[hmp] at this;omega);have l0:=L.c0;have l1:=L.c1;have l2:=L.c2;have l3:=L.c3;have l4:=L.c4;have l5:=L.c5;have l6:=L.c6;have l7:=L.c7;have hqlt1:q<w1.heap.size:=(by omega);clear hq0 hpm hy2 hne hv hvap hvkp OK g1 g2 g3 g4 g5 hmp L;go_upto_region 2 with fail;go_cut [5] (fun s5 wx=>s5 = .pointer (some ⟨w1.heap.size,0,none⟩)∧Hid (Below w1.heap.size w1 wx)∧Hid (NdB wx w1.heap.size mp Ap np cap A2p n2p c2p))
   case first=>
    go_region_held3 (fun w'=>w'.cell? ⟨q,0,none⟩=some (.slice (some ⟨b,o,none⟩) nl cl)∧w'.cell? ⟨b,o+k2*8,none⟩=some (.int .i64 mp.id)∧w'.cell? ⟨b,o+k2*8+1,none⟩=some (.int .i64 mp.par)∧w'.cell? ⟨b,o+k2*8+2,none⟩=some (.string mp.tag)∧w'.cell? ⟨b,o+k2*8+3,none⟩=some (.string mp.txt)∧w'.cell? ⟨b,o+k2*8+4,none⟩=some (.string mp.key)∧w'.cell? ⟨b,o+k2*8+5,none⟩=some (.slice Ap np cap)∧w'.cell? ⟨b,o+k2*8+6,none⟩=some (.slice A2p n2p c2p)∧w'.cell? ⟨b,o+k2*8+7,none⟩=some (.int .i64 mp.note)∧w'.cell? ⟨w.heap.size,1,none⟩=some (.int .i64 m.par)) (go_keep) ((first
  |(go_at_call 14;refine(at_yes m.par _ HA.out hl hk2 HY2.out (by exact H1.out.drewN _)).mono ?_;rintro e w3 ⟨rfl,rfl⟩)
  |(go_at_call 14;refine(at_yes m.par _ HA.out hl hk2 HY2.out (by exact(H1.out.alloc _).drewN _)).mono ?_;rintro e w3 ⟨rfl,rfl⟩)
  |fail))
    all_goals
     go_wp2_with fail;go_meet;exact⟨rfl,Zh ((Zb _ _).drew),Zh (heap_drew (NdB.new w1 mp Ap np cap A2p n2p c2p))⟩
   case rest=>
    obtain⟨rfl,B2,N2⟩:=hcut;obtain⟨w2,rfl⟩:∃w2,w2=wc:=⟨_,rfl⟩;have hz2:w1.heap.size<w2.heap.size:=N2.out.lt;clear d0 l0 l1 l2 l3 l4 l5 l6 l7 hcl hb e1;go_wp2_with fail;go_loopw [6,7] (fun s6 s7 wr=>∃j:Nat,j≤n2p∧s7 = .int .i64 j∧Hid (kI.Own wr w2.heap.size s6 (less i (y.rs[k2].nd.kids.take j)))∧Hid (Below w2.heap.size w2 wr)) (fun _ s7 _=>n2p-(intOf s7).toNat)
    case atStart=>exact⟨0,by omega,rfl,Zh (by simpa[less] using Kind.Own.nil kI w2 w2.heap.size),Zh Ze⟩
    case round=>
     obtain⟨j,hj,rfl,HO,HW⟩:=hrel;obtain⟨A6,n6,c6,rfl,h6,_⟩:=HO.out.slice;have hz3:=HW.out.size;have HBW:Hid (Below w.heap.size w wr):=Zh ((B1.out.trans (B2.out.mono (by omega))).trans (HW.out.mono (by omega)));have N3:Hid (NdB wr w1.heap.size mp Ap np cap A2p n2p c2p):=Zh (N2.out.below HW.out hz2);have e6:=N3.out.c6;by_cases hjn:j<n2p
     ·have hjl:j<y.rs[k2].nd.kids.length:=(by have:=HN.out;omega);obtain⟨gb,go,rfl,_,hc⟩:=cell_int (HK.out.on HBW.out) hjl;have HT1:=Zh (less_take (i:=i) hjl);have HL:Hid ((less i (y.rs[k2].nd.kids.take j)).length≤1000):=Zh (Nat.le_trans (List.length_filter_le _ _) (by rw[List.length_take];omega));clear h6;by_cases he:y.rs[k2].nd.kids[j]=i
      ·have hq:(y.rs[k2].nd.kids[j] != i)=false:=(by simpa using he);have HT2:Hid (less i (y.rs[k2].nd.kids.take (j+1))=less i (y.rs[k2].nd.kids.take j)):=Zh (by rw[HT1.out,if_pos he]);clear he;go_wp2_with fail;go_roundw
       case rel=>exact⟨j+1,by omega,by go_num,Zh (by rw[HT2.out];exact HO.out),HW⟩
       case measure=>simp[intOf];omega
      ·have hq:(y.rs[k2].nd.kids[j] != i)=true:=(by simpa using he);have HT2:Hid (less i (y.rs[k2].nd.kids.take (j+1))=less i (y.rs[k2].nd.kids.take j)++[y.rs[k2].nd.kids[j]]):=Zh (by rw[HT1.out,if_neg he]);clear he;generalize y.rs[k2].nd.kids[j]=kd at hc hq HT2;go_wp2_with (at_builtin;refine kI.wp_app rfl _ _ rfl (v:=.slice A6 n6 c6) (l:=less i (y.rs[k2].nd.kids.take j)) (m:=[kd]) (B:=w2.heap.size) rfl (HO.out.alloc _) rfl rfl (fun e=>by cases e) (Kind.Holds.lit (heap_alloc_new _ _) rfl) (by have:=HL.out;simp;omega) (by simp;omega) ?_;intro v' w3 hown hgrow hat;obtain⟨A7,n7,c7,rfl,_,_,_,_,_⟩:=hown.slice);have HO3:Hid (kI.Own w3 w2.heap.size (.slice A7 n7 c7) (less i (y.rs[k2].nd.kids.take (j+1)))):=Zh (by rw[HT2.out];exact hown);have HW3:Hid (Below w2.heap.size w2 w3):=Zh ((HW.out.alloc hz3 _).grown hgrow (by simp;omega) (fun k hk=>(HO.out.lt hk).1));clear hown hgrow hat;go_wp2_with fail;go_roundw
       case rel=>exact⟨j+1,by omega,by go_num,HO3,HW3⟩
       case measure=>simp[intOf];omega
     ·obtain rfl:j=n2p:=by omega
      have HO2:Hid (kI.Own wr w2.heap.size (.slice A6 n6 c6) (less i y.rs[k2].nd.kids)):=Zh (by have:=HO.out;rwa[←HN.out,List.take_length] at this);have f6:=N3.out.frozen 6;clear h6 hjn;have N4:Hid (NdB (wr.setCell ⟨w1.heap.size,6,none⟩ (.slice A6 n6 c6)) w1.heap.size (withKids (less i) mp) Ap np cap A6 n6 c6):=Zh (heap_set N3.out 6 (.slice A6 n6 c6));have B4:Hid (Below w.heap.size w (wr.setCell ⟨w1.heap.size,6,none⟩ (.slice A6 n6 c6))):=Zh (Below.setCell HBW.out (by show w.heap.size≤w1.heap.size;omega) _);have O4:Hid (kI.Own (wr.setCell ⟨w1.heap.size,6,none⟩ (.slice A6 n6 c6)) w2.heap.size (.slice A6 n6 c6) (less i y.rs[k2].nd.kids)):=Zh (HO2.out.keep fun g hg=>Below.heap_setCell _ _ _ _ (by have:=(HO2.out.lt hg).1;simp only[ne_eq];omega));have M4:Hid (NdB (wr.setCell ⟨w1.heap.size,6,none⟩ (.slice A6 n6 c6)) w.heap.size m A n ca A2 n2 c2):=Zh ((Below.heap_setCell wr ⟨w1.heap.size,6,none⟩ (.slice A6 n6 c6) w.heap.size (by simp only;omega)).trans ((N1.out.below B2.out hz1).below HW.out (by omega)));have Z4:(wr.setCell ⟨w1.heap.size,6,none⟩ (.slice A6 n6 c6)).heap.size=wr.heap.size:=(by simp[World.setCell]);go_upto_region 10 with fail;generalize wr.setCell ⟨w1.heap.size,6,none⟩ (.slice A6 n6 c6)=W4 at N4 B4 O4 M4 Z4⊢;clear N3 e6 f6 HO HBW;have a0:=N4.out.c0;have a1:=N4.out.c1;have a2:=N4.out.c2;have a3:=N4.out.c3;have a4:=N4.out.c4;have a5:=N4.out.c5;have a6:=N4.out.c6;have a7:=N4.out.c7;go_wp2_with fail;refine(set_any k2 (withKids (less i) mp) Ap np cap A6 n6 c6 W4 HA.out hl hk2 (by rw[HMP.out];rfl) ⟨by
       have:=((H.out.nodes _ (List.getElem_mem hk2)).att).below B4.out;rw[HVAP.out,HMP.out] at this;exact this,by have:=O4.out.base_le (B':=B) (by have:=H.out.base;omega);rw[HMP.out] at this;exact this⟩ (H.out.below B4.out)).mono ?_
      rintro e w5 ⟨rfl,v5,r5⟩;have R5:=Zh r5;have D5:=Zh (r5.did B4.out (fun g hg=> .inr (by have:=(O4.out.lt hg).1;omega)));have NF:=Zh (show¬rfoot q {y with v:=v5,rs:=y.rs.set k2 ⟨⟨Ap,np,cap⟩,⟨A6,n6,c6⟩,withKids (less i) mp⟩} w.heap.size from fun hf=>by
       rcases R5.out.ft _ hf with e|e|e
       ·have:=H.out.lt e;omega
       ·have:=(O4.out.lt e).1;omega
       ·omega)
      have N5:Hid (NdB w5 w.heap.size m A n ca A2 n2 c2):=Zh ((r5.but.block _ M4.out.lt (fun e=>by omega)).trans M4.out);have e1:=N5.out.c1;have f1:=N5.out.frozen 1;have D6:=Zh (D5.out.set_out (Zl) NF.out N5.out.noA 1 (.int .i64 0));have N6:Hid (NdB (w5.setCell ⟨w.heap.size,1,none⟩ (.int .i64 0)) w.heap.size (withPar 0 m) A n ca A2 n2 c2):=Zh (heap_set N5.out 1 (.int .i64 0));clear r5 a0 a1 a2 a3 a4 a5 a6 a7;go_upto_region 12 with fail;generalize w5.setCell ⟨w.heap.size,1,none⟩ (.int .i64 0)=W6 at N6 D6⊢;clear e1 f1 N5 D5 R5 NF;have a0:=N6.out.c0;have a1:=N6.out.c1;have a2:=N6.out.c2;have a3:=N6.out.c3;have a4:=N6.out.c4;have a5:=N6.out.c5;have a6:=N6.out.c6;have a7:=N6.out.c7;have hk6:k<(y.rs.set k2 ⟨⟨Ap,np,cap⟩,⟨A6,n6,c6⟩,withKids (less i) mp⟩).length:=(by simpa using hk);have hg6:(y.rs.set k2 ⟨⟨Ap,np,cap⟩,⟨A6,n6,c6⟩,withKids (less i) mp⟩)[k]=y.rs[k]:=List.getElem_set_ne HNE.out _;have TS:=two_set HA.out (k:=k) (k2:=k2) (by rw[rl_len];exact hk) (by rw[rl_len];exact hk2) HNE.out (withKids (less i)) (withPar 0) (fun _=>rfl);simp only[Rx.l,List.getElem_map,HMP.out,HM.out,show mp.id=m.par by rw[←HMP.out];exact HY2.out,show m.id=i by rw[←HM.out];exact HY.out] at TS;go_wp2_with fail;refine(set_any (y:={y with v:=v5,rs:=y.rs.set k2 ⟨⟨Ap,np,cap⟩,⟨A6,n6,c6⟩,withKids (less i) mp⟩}) k (withPar 0 m) A n ca A2 n2 c2 W6 (by show Asc ((y.rs.set k2 _).map (·.nd));rw[List.map_set];exact TS.2) (by simpa using hl) hk6 (by show((y.rs.set k2 _)[k]).nd.id=_;rw[hg6,HM.out];rfl) ⟨by
       have:=(D6.out.rf.nodes _ (List.getElem_mem hk6)).att;rw[hg6,HVA.out,HM.out] at this;exact this,by
       have:=(D6.out.rf.nodes _ (List.getElem_mem hk6)).kids;rw[hg6,HVK.out,HM.out] at this;exact this⟩ D6.out.rf).mono ?_
      rintro e w7 ⟨rfl,v7,r7⟩;have R7:=Zh (D6.out.trans (r7.did Ze (fun g hg=> .inl (.inr (.inr ⟨_,List.getElem_mem hk6,by rw[hg6,HVK.out];exact hg⟩)))));have HLL:=Zh TS.1;clear r7 TS;go_wp2_with fail
      go_end0
      refine⟨rfl,v7,_,R7.out,?_⟩;show(((y.rs.set k2 _).set k _).map (·.nd))=_;rw[List.map_set,List.map_set,HE.out];exact HLL.out
end P5
end Go.Proofs.YtaklfomaibchnaaGreat
