/- A part of the proof. No condition. -/
import Derived.WalkKit
import Derived.ProofKit
import Derived.Lib.Hide
import Derived.Deep.RegionHeld3
import Derived.Laws.Rows
import Derived.Test.YtimfajmknmlajaaGreatDoorProg
import Derived.Outline
import Derived.WalkLawsBesides
import Derived.WalkSpells
import Derived.OwnWalk
import Derived.Below
import Derived.Maps.AppendAt
import Derived.Laws.AppendOwnNone
import Derived.Laws.OwnMore
import Derived.Deep.AppendLies
import Derived.Deep.QuietTactic
import Derived.BigQuiet
import Derived.Test.YtimfajmknmlajaaGreatDoorChecked
import Derived.Laws.LoneSync
import Derived.Deep.RegionLaw
import Derived.Lib.SliceRun
import Derived.Laws.StructEq
import Derived.Shelf.Spec.SlicesInsertGrow
import Derived.Lib.IfaceEq
import Derived.WideLaws
import Derived.Deep.Slices
import Derived.ChangeSame
import Derived.Carry
set_option linter.unusedVariables false
set_option linter.unusedSimpArgs false
set_option maxRecDepth 100000
set_option maxHeartbeats 40000000
namespace Go.Proofs.YtimfajmknmlajaaGreatDoor
open Tryz
set_option linter.unusedVariables false
set_option linter.unusedSimpArgs false
set_option maxRecDepth 100000
open Go.RowKit
theorem Zb(w:World)(o:Obj):Below w.heap.size w (w.alloc o):=(Below.refl _ _).alloc (Nat.le_refl _) _
theorem Zl{n:Nat}:n≤n:=Nat.le_refl n
theorem Ze{B:Nat}{a:World}:Below B a a:=Below.refl _ _
theorem Zh{p:Prop}(h:p):Hid p:=h
theorem Zs:(∀(a:Act) (o:Option Nat) (v:Value),a.put o v=match o with|some d=>{a with tmps:=a.tmps.setIfInBounds d v}|none=>a)∧(∀(l:List Value) (i:Nat) (v:Value),l.toArray.setIfInBounds i v=(l.set i v).toArray)∧(∀(x v:Value) (l:List Value),(x:: l).set 0 v=v:: l)∧(∀(x v:Value) (l:List Value) (i:Nat),(x:: l).set (i+1) v=x:: l.set i v)∧(∀(l:List Bool) (i:Nat) (v:Bool),l.toArray.setIfInBounds i v=(l.set i v).toArray)∧(∀(x v:Bool) (l:List Bool),(x:: l).set 0 v=v:: l)∧(∀(x v:Bool) (l:List Bool) (i:Nat),(x:: l).set (i+1) v=x:: l.set i v):=
 ⟨fun a o v=>by cases o<;>rfl,fun l i v=>List.setIfInBounds_toArray ..,fun _ _ _=>rfl,fun _ _ _ _=>rfl,fun l i v=>List.setIfInBounds_toArray ..,fun _ _ _=>rfl,fun _ _ _ _=>rfl⟩
theorem Zt(i d:Nat){P:Program}{ops:Array Oper}{Q:Exit→Act→World→Prop}{md:Region.Mode}{S:World→Prop}{oi:Oper}{v:Value}{fuel:Nat}{listed:Array Bool}{a:Act}{w:World}
 {L:Array Bool} {a':Act} (h:wpAnyH P md ops Q S fuel L a' w) (hi:ops[i]? = some oi:=by rfl) (hd:oi.dst=some d:=by rfl) (hs:Region.noSelect ops=true:=by kernel_rfl) (hf:Region.free md ops listed i=true:=by kernel_rfl) (hr:(Region.ready md ops listed).contains i=true:=by kernel_rfl)
 (hQ:∀c a w,Q (.panic c) (a.put (some d) v) w→Q (.panic c) a w:=by exact fun _ _ _ h=>h) (hy:YieldsIf P ops S oi v a:=by exact Or.inl ⟨by rfl,by intro w' hSw;(try dsimp only at hSw);go_simp;try with_reducible rfl⟩) (hS:S w:=by assumption) (eL:listed.setIfInBounds i true=L:=by(try simp only[Zs]);rfl) (ea:a.put (some d) v=a':=by(try simp only[Zs]);rfl):wpAnyH P md ops Q S (fuel+1) listed a w:=
 wpAnyH_take hi hs hf hr (by rw[hd];exact hQ) hy hS (by rw[hd,eL,ea];exact h)
theorem Zn(i:Nat){P:Program}{ops:Array Oper}{Q:Exit→Act→World→Prop}{md:Region.Mode}{S:World→Prop}{oi:Oper}{v:Value}{fuel:Nat}{listed:Array Bool}{a:Act}{w:World}
 {L:Array Bool} {a':Act} (h:wpAnyH P md ops Q S fuel L a' w) (hi:ops[i]? = some oi:=by rfl) (hs:Region.noSelect ops=true:=by kernel_rfl) (hf:Region.free md ops listed i=true:=by kernel_rfl) (hr:(Region.ready md ops listed).contains i=true:=by kernel_rfl)
 (hQ:∀c a w,Q (.panic c) (a.put oi.dst v) w→Q (.panic c) a w:=by exact fun _ _ _ h=>h) (hy:YieldsIf P ops S oi v a:=by exact Or.inl ⟨by rfl,by intro w' hSw;(try dsimp only at hSw);go_simp;try with_reducible rfl⟩) (hS:S w:=by assumption) (eL:listed.setIfInBounds i true=L:=by(try simp only[Zs]);rfl) (ea:a.put oi.dst v=a':=by(try simp only[Zs]);rfl):wpAnyH P md ops Q S (fuel+1) listed a w:=
 wpAnyH_take hi hs hf hr hQ hy hS (by rw[eL,ea];exact h)
theorem Zi(i d:Nat){P:Program}{ops:Array Oper}{Q:Exit→Act→World→Prop}{md:Region.Mode}{S:World→Prop}{oi:Oper}{fuel:Nat}{listed:Array Bool}{a:Act}{w:World}
 {L:Array Bool} {a':Act} (h:wpAnyH P md ops Q S fuel L a' w) (hi:ops[i]? = some oi:=by rfl) (hd:oi.dst=some d:=by rfl) (hs:Region.noSelect ops=true:=by kernel_rfl) (hf:Region.free md ops listed i=true:=by kernel_rfl) (hr:(Region.ready md ops listed).contains i=true:=by kernel_rfl)
 (hQ:∀c a w,Q (.panic c) (a.put (some d) undef) w→Q (.panic c) a w:=by exact fun _ _ _ h=>h) (hy:YieldsIf P ops S oi undef a:=by exact Or.inr ⟨by rfl,rfl⟩) (hS:S w:=by assumption) (eL:listed.setIfInBounds i true=L:=by(try simp only[Zs]);rfl) (ea:a.put (some d) undef=a':=by(try simp only[Zs]);rfl):wpAnyH P md ops Q S (fuel+1) listed a w:=
 wpAnyH_take hi hs hf hr (by rw[hd];exact hQ) hy hS (by rw[hd,eL,ea];exact h)
theorem Zr(rs:List Nat){P:Program}{ops:Array Oper}{Q:Exit→Act→World→Prop}{md:Region.Mode}{S:World→Prop}{fuel:Nat}{listed:Array Bool}{a:Act}{w:World}(h:AllReadyH P md ops Q S fuel listed a w rs)(hr:Region.ready md ops listed=rs:=by kernel_rfl)(hne:rs≠[]:=by simp):wpAnyH P md ops Q S (fuel+1) listed a w:=wpAnyH_ready hr hne h
theorem dA{p:Prop}(h:p:=by omega):p:=h
theorem pA{p:Prop}(h:p:=by decide):p:=h
theorem FA{p:Prop}(h:p:=by simp):p:=h
theorem jB{p:Prop}(h:p:=by simp;omega):p:=h
theorem IA{a p:Prop}(h:a)(k:a→p:=by intro this;omega):p:=k h
theorem DA{α:Sort _}(a:α):∃k,a=k:=⟨a,rfl⟩
theorem iB(i:Nat){w:World}{g:Nat}{cur:Array Value}{t:TypeId}{fr:Nat×Nat}{v:Value}(h:w.heap[g]? = some (.cells cur t fr))(hv:cur[i]? = some v:=by rfl):w.cell? ⟨g,i,none⟩=some v:=(cell_of_row w g i cur t fr h).trans hv
abbrev aA(x:Int):Value:=.int .i64 x
abbrev bA(x:ByteArray):Value:=.string x
abbrev cA(b i:Nat):Addr:=⟨b,i,none⟩
abbrev lA(b:Nat):Value:=.pointer (some ⟨b,0,none⟩)
abbrev fA(w w':World):Prop:=Below w.heap.size w w'
abbrev oE:Array Value:=#[.int .i64 0,.int .i64 0,.string ⟨#[]⟩,.string ⟨#[]⟩,.string ⟨#[]⟩,.slice none 0 0,.slice none 0 0,.int .i64 0]
theorem KF{p:Prop}(h:p:=by intro e;cases e):p:=h
theorem TG{p:Prop}(h:p:=by unfold maxLen;omega):p:=h
theorem VG{C:Nat}{w w':World}(h:Below C w w':=by first|exact OC (Below.refl _ _) _|exact(Below.refl _ _).drew|exact Below.refl _ _):Below C w w':=h
theorem PA{P:Program}{f:FuncId}{args:Array Value}{w:World}{e0:Ending}{R:Ending→World→Prop}(h:Calls P f args w (fun e w'=>e=e0∧w=w'))(k:R e0 w):Calls P f args w R:=h.mono (by rintro _ _ ⟨rfl,rfl⟩;exact k)
abbrev oA:Value:=.string ⟨#[]⟩
abbrev tA:Value:=.slice none 0 0
abbrev vA:=Option Addr
abbrev qA:=ByteArray
abbrev uA:=List UInt8
abbrev uy(w:World):Nat:=w.heap.size
set_option linter.unusedVariables false
set_option linter.unusedSimpArgs false
set_option maxRecDepth 100000
open Go.RowKit
abbrev jA(f:FuncId)(a:Array Value)(w:World)(R:Ending→World→Prop):Prop:=Calls Tryz.prog f a w R
namespace Kd
open Go.RowKit
structure iA(S:Nat->Prop)(a w:World):Prop where
 os:w.os=a.os
 tape:w.tape=a.tape
 output:w.output=a.output
 size:a.heap.size<=w.heap.size
 block:∀k,k<a.heap.size->¬S k->w.heap[k]? = a.heap[k]?
section
variable{S T:Nat->Prop}{a w w':World}
theorem iA.refl(S:Nat->Prop)(a:World):iA S a a:=⟨rfl,rfl,rfl,Zl,fun _ _ _=>rfl⟩
theorem iA.trans(h:iA S a w)(k:iA T w w')(hT:∀i,i<a.heap.size->T i->S i):iA S a w':=
 ⟨k.os.trans h.os,k.tape.trans h.tape,k.output.trans h.output,Nat.le_trans h.size k.size,fun i b c=>(k.block i (Nat.lt_of_lt_of_le b h.size) (fun d=>c (hT i b d))).trans (h.block i b c)⟩
theorem iA.mono(h:iA S a w)(hS:∀i,i<a.heap.size->S i->T i):iA T a w:=⟨h.os,h.tape,h.output,h.size,fun i b c=>h.block i b (fun d=>c (hS i b d))⟩
theorem iA.oB(h:fA a w)(S:Nat->Prop):iA S a w:=⟨h.os,h.tape,h.output,h.size,fun i b _=>h.block i b⟩
theorem iA.WG{row:Option Nat}(h:a.grownBy w row)(hr:∀g,row=some g->g<a.heap.size->S g):iA S a w:=⟨h.os,h.tape,h.output,h.size,fun i b c=>h.block i b (fun e=>c (hr i e.symm b))⟩
theorem iA.drewN(h:iA S a w)(n:Nat):iA S a (w.drewN n):=⟨h.os,h.tape,h.output,h.size,h.block⟩
theorem iA.drew(h:iA S a w):iA S a w.drew:=⟨h.os,h.tape,h.output,h.size,h.block⟩
theorem iA.alloc(h:iA S a w)(o:Obj):iA S a (w.alloc o):=
 ⟨h.os,h.tape,h.output,Nat.le_trans h.size FA,fun i b c=>(Below.heap_alloc w o i (Nat.lt_of_lt_of_le b h.size)).trans (h.block i b c)⟩
theorem iA.setCell(h:iA S a w){p:Addr}(hp:p.block<a.heap.size->S p.block)(u:Value):iA S a (w.setCell p u):=
 ⟨h.os,h.tape,h.output,by simpa[World.setCell] using h.size,fun i b c=>(Below.heap_setCell w p u i (by rintro rfl;exact c (hp b))).trans (h.block i b c)⟩
theorem iA.eD{B:Nat}(h:iA S a w)(hS:∀i,i<a.heap.size->S i->B<=i)(hB:B<=a.heap.size):Below B a w:=
 ⟨h.os,h.tape,h.output,h.size,fun i c=>h.block i dA (fun b=>by have:=hS i dA b;omega)⟩
theorem OC{B:Nat}(h:Below B a w)(n:Nat):Below B a (w.drewN n):=⟨h.os,h.tape,h.output,h.size,h.block⟩
end
theorem JA{w:World}{g:Nat}{o:Obj}(h:w.heap[g]? = some o):g<w.heap.size:=by
 rcases Nat.lt_or_ge g w.heap.size with hlt|hge
 ·exact hlt
 ·rw[Array.getElem?_eq_none hge] at h;cases h
theorem WA{w:World}{g g':Nat}{t t':TypeId}{c c':Array Value}{f f':Nat×Nat}(h:w.heap[g]? = some (.cells c t f))(h':w.heap[g']? = some (.cells c' t' f'))(hne:t≠t'):g≠g':=by
 rintro rfl;rw[h] at h';injection h' with h';injection h' with _ ht;exact hne ht
theorem JB{w:World}{o x:Obj}{g:Nat}(h:w.heap[g]? = some x):(w.alloc o).heap[g]? = some x:=(Below.heap_alloc w o g (JA h)).trans h
theorem heap_set{w:World}{g:Nat}{cur:Array Value}{t:TypeId}{fr:Nat×Nat}(h:w.heap[g]? = some (.cells cur t fr))(o:Nat)(u:Value):(w.setCell (cA g o) u).heap[g]? = some (.cells (cur.setIfInBounds o u) t fr):=by
 simp[World.setCell,Array.getElem?_modify,h]
theorem cI(g:Nat):∀(vs:List Value) (o:Nat) (w:World) (cur:Array Value) (t:TypeId) (fr:Nat×Nat),w.heap[g]? = some (.cells cur t fr)->
 ∃cur',(w.setCells g o vs).heap[g]? = some (.cells cur' t fr)/\cur'.size=cur.size/\∀k,k<cur.size->cur'[k]? = if o<=k/\k<o+vs.length then vs[k-o]? else cur[k]?
 |[],o,w,cur,t,fr,h=>⟨cur,h,rfl,fun k _=>by rw[if_neg (by simp only[List.length_nil];omega)]⟩
 |v:: r,o,w,cur,t,fr,h=>by
  obtain⟨cur',h1,h2,h3⟩:=cI g r (o+1) _ _ _ _ (heap_set h o v);refine⟨cur',h1,by rw[h2,Array.size_setIfInBounds],fun k hk=>?_⟩;rw[h3 k (by rw[Array.size_setIfInBounds];exact hk),List.length_cons];by_cases e:k=o
  ·subst e;rw[if_neg dA,if_pos dA,Nat.sub_self,Array.getElem?_setIfInBounds_self_of_lt hk];rfl
  ·by_cases hr:o+1<=k/\k<o+1+r.length
   ·rw[if_pos hr,if_pos dA,show k-o=k-(o+1)+1 by omega,List.getElem?_cons_succ]
   ·rw[if_neg hr,if_neg dA,Array.getElem?_setIfInBounds_ne (Ne.symm e)]
theorem YS(g:Nat){k:Nat}(hk:k≠g):∀(vs:List Value) (o:Nat) (w:World),(w.setCells g o vs).heap[k]? = w.heap[k]?
 |[],_,_=>rfl
 |v:: r,o,w=>by rw[World.setCells,YS g hk r,Below.heap_setCell w _ _ _ hk]
theorem dX(g:Nat):∀(vs:List Value) (o:Nat) (w:World),(w.setCells g o vs).os=w.os/\(w.setCells g o vs).tape=w.tape/\(w.setCells g o vs).output=w.output/\(w.setCells g o vs).heap.size=w.heap.size
 |[],_,_=>⟨rfl,rfl,rfl,rfl⟩
 |v:: r,o,w=>by
  obtain⟨h1,h2,h3,h4⟩:=dX g r (o+1) (w.setCell (cA g o) v);exact⟨h1,h2,h3,h4.trans (by simp[World.setCell])⟩
theorem iA.setCells{S:Nat->Prop}{a w:World}{g:Nat}(h:iA S a w)(hg:g<a.heap.size->S g)(o:Nat)(vs:List Value):iA S a (w.setCells g o vs):=by
 obtain⟨d,e,f,j⟩:=dX g vs o w;refine⟨d.trans h.os,e.trans h.tape,f.trans h.output,by rw[j];exact h.size,fun i b c=>?_⟩;rw[YS g (by rintro rfl;exact c (hg b))];exact h.block i b c
structure Kind(P:Program)(α:Type) where
 t:TypeId
 e:TypeId
 size:Nat
 bytes:Nat
 z:Value
 cs:α->List Value
 ht:P.underlying t=some (.slice e)
 info:∃i,P.info? e=some i/\i.zero=some z/\i.size=size/\i.bytes=bytes
 zH:z.cells.size=size
 zG:0<size
 BH:bytes<=256
 len:∀a,(cs a).length=size
 one:∀a,∀u∈cs a,u.oneCell'=true
section
variable{P:Program}{α:Type}(K:Kind P α)
def Kind.cells(l:List α):List Value:=l.flatMap K.cs
theorem Kind.dI(l:List α):(K.cells l).length=l.length*K.size:=by
 induction l with
 |nil=>simp[Kind.cells]
 |cons a l ih=>
  simp only[Kind.cells,List.flatMap_cons,List.length_append,List.length_cons] at ih|-;rw[ih,K.len,Nat.succ_mul,Nat.add_comm]
theorem Kind.rL(l m:List α):K.cells (l++m)=K.cells l++K.cells m:=by simp[Kind.cells]
theorem Kind.FO(l:List α)(k:Nat):K.cells (l.take k)=(K.cells l).take (k*K.size):=by
 rcases Nat.lt_or_ge k l.length with h|h
 ·have e:K.cells l=K.cells (l.take k)++K.cells (l.drop k):=(by rw[<-Kind.rL,List.take_append_drop]);have a:(K.cells (l.take k)).length=k*K.size:=(by rw[Kind.dI,List.length_take,Nat.min_eq_left dA]);rw[e,<-a,List.take_left]
 ·rw[List.take_of_length_le h,List.take_of_length_le];rw[Kind.dI];exact Nat.mul_le_mul_right _ h
theorem Kind.JO(l:List α)(k:Nat):K.cells (l.drop k)=(K.cells l).drop (k*K.size):=by
 rcases Nat.lt_or_ge k l.length with h|h
 ·have e:K.cells l=K.cells (l.take k)++K.cells (l.drop k):=(by rw[<-Kind.rL,List.take_append_drop]);have a:(K.cells (l.take k)).length=k*K.size:=(by rw[Kind.dI,List.length_take,Nat.min_eq_left dA]);rw[e,<-a,List.drop_left]
 ·rw[List.drop_eq_nil_of_le h,List.drop_eq_nil_of_le]
  ·rfl
  ·rw[Kind.dI];exact Nat.mul_le_mul_right _ h
theorem Kind.fN(l:List α)(k:Nat)(h:k<l.length)(j:Nat)(hj:j<K.size):(K.cells l)[k*K.size+j]? = (K.cs l[k])[j]?:=by
 have e:K.cells (l.drop k)=K.cs l[k]++K.cells (l.drop (k+1)):=by
  show(l.drop k).flatMap K.cs=K.cs l[k]++(l.drop (k+1)).flatMap K.cs;rw[List.drop_eq_getElem_cons h,List.flatMap_cons]
 have:=congrArg (fun x=>x[j]?) e;simp only[Kind.JO,List.getElem?_drop] at this;rw[this,List.getElem?_append_left (by rw[K.len];exact hj)]
theorem Kind.CQ(l:List α):∀u∈K.cells l,u.oneCell'=true:=by
 intro u b;obtain⟨a,_,c⟩:=List.mem_flatMap.1 b;exact K.one a u c
def Kind.AA(w:World)(B:Nat)(A:vA)(l:List α):Prop:=
 ∀j u,(K.cells l)[j]? = some u->∃b o,A=some (cA b o)/\b<B/\w.cell? ⟨b,o+j,none⟩=some u
variable{K}{w w':World}{B:Nat}{A:vA}{l:List α}
theorem Kind.AA.VB(h:K.AA w B A l)(hk:∀b,(∃o,A=some (cA b o))->b<B->w'.heap[b]? = w.heap[b]?):K.AA w' B A l:=by
 intro j u c;obtain⟨b,o,rfl,a,d⟩:=h j u c;exact⟨b,o,rfl,a,(World.cell?_of_block (hk b ⟨o,rfl⟩ a)).trans d⟩
theorem Kind.AA.below{C:Nat}(h:K.AA w B A l)(hb:Below C w w')(hBC:B<=C):K.AA w' B A l:=h.VB fun b _ a=>hb.block b dA
theorem Kind.AA.more{B':Nat}(h:K.AA w B A l)(hB:B<=B'):K.AA w B' A l:=by
 intro j u a;obtain⟨b,o,c,e,d⟩:=h j u a;exact⟨b,o,c,by omega,d⟩
theorem Kind.AA.on(h:K.AA w w.heap.size A l)(hb:fA w w'):K.AA w' w'.heap.size A l:=(h.below hb Zl).more hb.size
theorem Kind.AA.drew(h:K.AA w B A l):K.AA w.drew B A l:=h
theorem Kind.AA.nil(w:World)(B:Nat)(A:vA):K.AA w B A []:=fun j u a=>by simp[Kind.cells] at a
theorem Kind.AA.at(h:K.AA w B A l){k:Nat}(hk:k<l.length):∃b o,A=some (cA b o)/\b<B/\∀j u,(K.cs l[k])[j]? = some u->w.cell? ⟨b,o+(k*K.size+j),none⟩=some u:=by
 have key:∀j u,(K.cs l[k])[j]? = some u->(K.cells l)[k*K.size+j]? = some u:=fun j u a=>by
  have:=(List.getElem?_eq_some_iff.1 a).1;rw[K.len] at this;rw[K.fN l k hk j this,a]
 obtain⟨d,e⟩:∃u,(K.cs l[k])[0]? = some u:=⟨(K.cs l[k])[0]'(by rw[K.len];exact K.zG),List.getElem?_eq_getElem _⟩;obtain⟨b,o,rfl,f,_⟩:=h _ _ (key 0 d e);refine⟨b,o,rfl,f,fun j u a=>?_⟩;obtain⟨i,m,c,_,g⟩:=h _ _ (key j u a);injection c with c;injection c with e1 e2;subst e1;subst e2;exact g
theorem Kind.AA.take(h:K.AA w B A l)(n:Nat):K.AA w B A (l.take n):=by
 intro j u a;rw[K.FO,List.getElem?_take] at a;split at a
 ·exact h j u a
 ·cases a
theorem Kind.AA.drop{b o:Nat}(h:K.AA w B (some (cA b o)) l)(k:Nat):K.AA w B (some ⟨b,o+k*K.size,none⟩) (l.drop k):=by
 intro j u c;rw[K.JO,List.getElem?_drop] at c;obtain⟨f,g,a,d,e⟩:=h _ _ c;injection a with a;injection a with e1 e2;subst e1;subst e2;exact⟨b,_,rfl,d,by rw[Nat.add_assoc];exact e⟩
theorem Kind.AA.lit{g:Nat}{t:TypeId}{fr:Nat×Nat}{c:Array Value}(h:w.heap[g]? = some (.cells c t fr))(hc:c.toList=K.cells l):K.AA w (g+1) (some (cA g 0)) l:=by
 intro j u a;refine⟨g,0,rfl,by omega,?_⟩;rw[Nat.zero_add,cell_of_row w g j c t fr h,<-Array.getElem?_toList,hc];exact a
variable{v:Value}
def Kind.Own(K:Kind P α)(w:World)(B:Nat)(v:Value)(l:List α):Prop:=w.ownsRow B K.e K.size v l.length (K.cells l)
theorem Kind.Own.nil(K:Kind P α)(w:World)(B:Nat):K.Own w B (tA) []:=World.ownsRow_nil w B K.e K.size
theorem Kind.Own.made(K:Kind P α)(w:World)(B:Nat)(hB:B<=w.heap.size):K.Own (w.alloc (.cells #[] K.e)) B (.slice (some ⟨w.heap.size,0,none⟩) 0 0) []:=
 World.ownsRow_made (size:=K.size) w #[] 0 hB (by simp[maxLen]) FA
theorem Kind.Own.lt(h:K.Own w B v l){g:Nat}(hg:v.ownBlock=some g):B<=g/\g<w.heap.size:=World.ownsRow.lt h g hg
theorem Kind.Own.ty(h:K.Own w B v l){g:Nat}(hg:v.ownBlock=some g):∃cur,w.heap[g]? = some (.cells cur K.e (0,0)):=by
 rcases h.2 with⟨rfl,_⟩|⟨g',cap,cur,rfl,_,hh,_⟩
 ·cases hg
 ·have:g'=g:=(by simpa[Value.ownBlock] using hg);subst this;exact⟨cur,hh⟩
theorem Kind.Own.VB(h:K.Own w B v l)(hk:∀g,v.ownBlock=some g->w'.heap[g]? = w.heap[g]?):K.Own w' B v l:=by
 obtain⟨b,a⟩:=h;refine⟨b,?_⟩;rcases a with a|⟨g,cap,cur,hv,hg,hh,r⟩
 ·exact .inl a
 ·subst hv;exact .inr ⟨g,cap,cur,rfl,hg,(hk g rfl).trans hh,r⟩
theorem Kind.Own.but{S:Nat->Prop}(h:K.Own w B v l)(hb:iA S w w')(hS:∀g,v.ownBlock=some g->¬S g):K.Own w' B v l:=
 h.VB fun g a=>hb.block g (h.lt a).2 (hS g a)
theorem Kind.Own.below{C:Nat}(h:K.Own w B v l)(hb:Below C w w')(hC:w.heap.size<=C):K.Own w' B v l:=h.VB fun g a=>hb.block g (IA ((h.lt a).2))
theorem Kind.Own.grown{row:Option Nat}(h:K.Own w B v l)(hg:w.grownBy w' row)(hr:∀g,v.ownBlock=some g->row≠some g):K.Own w' B v l:=h.VB fun g e=>hg.block g (h.lt e).2 (fun c=>hr g e c.symm)
theorem Kind.Own.alloc(h:K.Own w B v l)(o:Obj):K.Own (w.alloc o) B v l:=World.ownsRow.alloc h o
theorem Kind.Own.dE{B':Nat}(h:K.Own w B v l)(hb:B'<=B):K.Own w B' v l:=by
 obtain⟨b,a⟩:=h;refine⟨b,?_⟩;rcases a with a|⟨g,cap,cur,hv,hg,r⟩
 ·exact .inl a
 ·exact .inr ⟨g,cap,cur,hv,by omega,r⟩
theorem Kind.Own.form(h:K.Own w B v l):(v = tA/\l=[])\/∃g c cur,v= .slice (some (cA g 0)) l.length c/\v.ownBlock=some g/\B<=g/\g<w.heap.size/\w.heap[g]? = some (.cells cur K.e (0,0))/\l.length<=c/\c<=maxLen/\cur.size=c*K.size/\cur.toList.take (l.length*K.size)=K.cells l:=by
 rcases h.2 with⟨rfl,hn⟩|⟨g,cap,cur,rfl,hg,hh,r1,r2,r3,r4⟩
 ·exact .inl ⟨rfl,List.eq_nil_of_length_eq_zero hn⟩
 ·exact .inr ⟨g,cap,cur,rfl,rfl,hg,JA hh,hh,r1,r2,r3,r4⟩
theorem Kind.OH{g c n:Nat}{cur:Array Value}(hl:l.length=n)(hg:B<=g)(hh:w.heap[g]? = some (.cells cur K.e (0,0)))(h1:n<=c)(h2:c<=maxLen)(h3:cur.size=c*K.size)(h4:cur.toList.take (n*K.size)=K.cells l):K.Own w B (.slice (some (cA g 0)) n c) l:=by
 subst hl;exact⟨K.dI l,.inr ⟨g,c,cur,rfl,hg,hh,h1,h2,h3,h4⟩⟩
theorem Kind.Own.slice(h:K.Own w B v l):∃A n c,v= .slice A n c/\l.length=n/\n<=c/\c<=maxLen/\(A=Option.none->c=0)/\K.AA w w.heap.size A l:=by
 rcases h.form with⟨rfl,rfl⟩|⟨g,c,cur,rfl,_,_,hlt,hh,qD,UC,hcs,ht⟩
 ·exact⟨Option.none,0,0,rfl,rfl,by omega,by unfold maxLen;omega,fun _=>rfl,Kind.AA.nil _ _ _⟩
 ·refine⟨_,l.length,c,rfl,rfl,qD,UC,fun e=>(by cases e),fun j u a=>⟨g,0,rfl,hlt,?_⟩⟩;rw[Nat.zero_add,cell_of_row w g j _ _ _ hh,<-Array.getElem?_toList];rw[<-ht,List.getElem?_take] at a;split at a
  ·exact a
  ·cases a
def dF(v u:Value):Prop:=∀g,v.ownBlock=some g->u.ownBlock≠some g
theorem dF.symm{v u:Value}(h:dF v u):dF u v:=fun g a e=>h g e a
theorem Kind.Own.Ld{g n c o:Nat}{m:List α}{u:Value}(h:K.Own w B (.slice (some (cA g 0)) n c) l)(hl:l.length=n)(hm:m.length=l.length)(hc:K.cells m=(K.cells l).set o u):K.Own (w.setCell (cA g o) u) B (.slice (some (cA g 0)) n c) m:=by
 rcases h.form with⟨hv,_⟩|⟨g',c',cur,hv,_,hg,hlt,hh,h1,h2,h3,h4⟩
 ·cases hv
 ·injection hv with e1 e2 e3;injection e1 with e1;injection e1 with e1;subst e1;subst e3;refine Kind.OH dA hg (heap_set hh o u) dA h2 (by rw[Array.size_setIfInBounds,h3]) ?_;rw[Array.toList_setIfInBounds,List.take_set,<-hl,h4,hc]
theorem Kind.dq(ty:TypeId){n c:Nat}{m:List α}(hown:K.Own w B v l){C:Nat}(hn:m.length=n)(hc:A=none->c=0)(hm:K.AA w C A m)
 (hl:l.length+n<=1000000000) (hbase:B<=w.heap.size):
 ∃v' w',(Builtin.append_ #[K.t,K.t] ty #[v,.slice A n c]).run P w= .ok v' w'/\K.Own w' B v' (l++m)/\w.grownBy w' v.ownBlock/\(v'.ownBlock=v.ownBlock\/v'.ownBlock=some w.heap.size):=by
 obtain⟨s,t,g,i,p⟩:=K.info;have x:=K.BH;subst hn;cases A with
 |none=>
  have q:m=[]:=by
   cases m with
   |nil=>rfl
   |cons b r=>
    obtain⟨_,_,d,_⟩:=hm.at (k:=0) FA;cases d
  subst q;rw[hc rfl];exact⟨v,w,run_append_owned_none (P:=P) (w:=w) B K.t ty K.e s K.size K.ht t v _ _ hown,by simpa using hown,World.grownBy.refl _ _,.inl rfl⟩
 |some ad=>
  obtain⟨v',w',y,z,D,_,E⟩:=run_append_own_at (P:=P) w B K.t ty K.e s K.z K.size K.bytes K.ht t g i p K.zH K.zG v l.length (K.cells l) hown ad m.length c (K.cells m) (K.dI m) (fun j u F=>by
   obtain⟨b,o,d,_,a⟩:=hm j u F;injection d with d;subst d;have f:(⟨b,o,Option.none⟩:Addr).add j=⟨b,o+j,Option.none⟩:=by
    unfold Addr.add;split
    ·rename_i e;subst e;rfl
    ·rfl
   rw[f];exact a) (K.CQ m) TG (by have:=Nat.mul_le_mul (Nat.le_of_lt_succ (Nat.lt_succ_of_le hl)) x;omega) hbase
  refine⟨v',w',y,?_,D,E⟩;unfold Kind.Own;rw[List.length_append,K.rL];exact z
theorem Kind.ia{o:Oper}{a:Act}{Kk:Act->World->Prop}{Q:Exit->Act->World->Prop}(s x:Operand)
 (ho:o.op= .call {callee:=.builtin .append,args:=#[s,x],argTypes:=#[K.t,K.t]})
 {n c:Nat} {m:List α} {C:Nat} (hs:a.eval s=v) (hown:K.Own w B v l) (hx:a.eval x= .slice A n c) (hn:m.length=n) (hc:A=none->c=0) (hm:K.AA w C A m)
 (hl:l.length+n<=1000000000) (hbase:B<=w.heap.size)
 (h:∀v' w',K.Own w' B v' (l++m)->w.grownBy w' v.ownBlock->(v'.ownBlock=v.ownBlock\/v'.ownBlock=some w.heap.size)->Kk (a.put o.dst v') w'):o.wp P a w Kk Q:=by
 obtain⟨v',w',b,d,e,f⟩:=K.dq o.type hown hn hc hm hl hbase;unfold Oper.wp execOp;simp only[ho,resolve,invoke,builtin,Sem.run_bind,Sem.run_pure,Result.andThen_ok,List.map_toArray,List.map_cons,List.map_nil,hs,hx,b];exact h v' w' d e f
theorem Kind.QF(K:Kind P α){ops:Array Oper}{rest:List Oper}{o:Oper}{a:Act}{Q:Exit->Act->World->Prop}(hgd:o.guard=none)(s x:Operand)
 (ho:o.op= .call {callee:=.builtin .append,args:=#[s,x],argTypes:=#[K.t,K.t]})
 {n c:Nat} {m:List α} {C:Nat} (hs:a.eval s=v) (hown:K.Own w B v l) (hx:a.eval x= .slice A n c) (hn:m.length=n) (hc:A=none->c=0) (hm:K.AA w C A m)
 (hl:l.length+n<=1000000000) (hbase:B<=w.heap.size)
 (h:∀v' w',K.Own w' B v' (l++m)->w.grownBy w' v.ownBlock->(v'.ownBlock=v.ownBlock\/v'.ownBlock=some w.heap.size)->wpList P ops Q rest (a.put o.dst v') w'):wpList P ops Q (o:: rest) a w:=
 wpList_plain hgd fun _ hK=>K.ia s x ho hs hown hx hn hc hm hl hbase fun v' w' b d e=>hK _ _ (h v' w' b d e)
theorem Kind.FL(K:Kind P α){ops:Array Oper}{o:Oper}{a:Act}{Kk:Act->World->Prop}{Q:Exit->Act->World->Prop}{E:Prop}(hgd:o.guard=none)(s x:Operand)
 (ho:o.op= .call {callee:=.builtin .append,args:=#[s,x],argTypes:=#[K.t,K.t]})
 {n c:Nat} {m:List α} {C:Nat} (hs:a.eval s=v) (hown:K.Own w B v l) (hx:a.eval x= .slice A n c) (hn:m.length=n) (hc:A=none->c=0) (hm:K.AA w C A m)
 (hl:l.length+n<=1000000000) (hbase:B<=w.heap.size)
 (h:∀v' w',K.Own w' B v' (l++m)->w.grownBy w' v.ownBlock->(v'.ownBlock=v.ownBlock\/v'.ownBlock=some w.heap.size)->Kk (a.put o.dst v') w'):
 if Region.wanted o (yielded ops a.tmps)=true then Oper.wp P o a w Kk Q else E:=by
 have b:Region.wanted o (yielded ops a.tmps)=true:=(by simp[Region.wanted,hgd]);rw[if_pos b];exact K.ia s x ho hs hown hx hn hc hm hl hbase h
end
end Kd
namespace P4
structure Sl(α:Type) where
 id:Int
 x:α
variable{α:Type}
def JF:List (Sl α)->Int->Nat
 |[],_=>0
 |s:: r,t=>if s.id<t then JF r t+1 else 0
def ZD(n:Int)(l:List (Sl α)):Prop:=l.Pairwise (fun a b=>a.id<b.id)/\∀s∈l,1<=s.id/\s.id<=n
def kF(l:List (Sl α))(k:Nat)(t:Int):Bool:=match l[k]? with
 |some s=>s.id==t
 |none=>false
def uE(l:List (Sl α))(t:Int):Bool:=kF l (JF l t) t
theorem QU:∀(l:List (Sl α)) (t:Int) (i:Nat),i<=l.length->(∀k (h:k<l.length),k<i->l[k].id<t)->(∀k (h:k<l.length),i<=k->t<=l[k].id)->JF l t=i
 |[],t,i,hi,_,_=>by simp at hi;simp[JF,hi]
 |s:: r,t,0,_,_,h2=>by
  have:=h2 0 FA dA;simp only[List.getElem_cons_zero] at this;simp only[JF];rw[if_neg dA]
 |s:: r,t,i+1,hi,h1,h2=>by
  have h0:=h1 0 FA dA;simp only[List.getElem_cons_zero] at h0;simp only[JF];rw[if_pos h0,QU r t i (by simpa using hi) (fun k hk hki=>h1 (k+1) (by simpa using hk) dA) (fun k hk hki=>h2 (k+1) (by simpa using hk) dA)]
theorem VR{l:List (Sl α)}{k:Nat}{t:Int}(h:kF l k t=true):k<l.length:=by
 unfold kF at h;split at h
 ·rename_i s hs;exact(List.getElem?_eq_some_iff.1 hs).1
 ·cases h
theorem Yb{l:List (Sl α)}{k:Nat}{t:Int}(h:kF l k t=true)(hk:k<l.length):l[k].id=t:=by
 unfold kF at h;rw[List.getElem?_eq_getElem hk] at h;simpa using h
theorem ec{l:List (Sl α)}{k:Nat}{t:Int}(hk:k<l.length):kF l k t=(l[k].id==t):=by
 unfold kF;rw[List.getElem?_eq_getElem hk]
theorem xl{l:List (Sl α)}{k:Nat}{t:Int}(hk:l.length<=k):kF l k t=false:=by
 unfold kF;rw[List.getElem?_eq_none hk]
theorem qP{n:Int}{l:List (Sl α)}(h:ZD n l){i j:Nat}(hi:i<l.length)(hj:j<l.length)(hij:i<j):l[i].id<l[j].id:=
 List.pairwise_iff_getElem.1 h.1 i j hi hj hij
theorem qR{n:Int}{l:List (Sl α)}(h:ZD n l){k:Nat}(hk:k<l.length):JF l l[k].id=k:=by
 refine QU l _ k dA (fun i a b=>qP h a hk b) (fun i a c=>?_);rcases Nat.lt_or_eq_of_le c with hlt|rfl
 ·have:=qP h hk a hlt;omega
 ·exact Int.le_refl _
theorem RU{n:Int}{l:List (Sl α)}(h:ZD n l){k:Nat}(hk:k<l.length):uE l l[k].id=true:=by
 unfold uE;rw[qR h hk,ec hk];simp
theorem yl{l:List (Sl α)}{t:Int}(h:uE l t=true):∃s∈l,s.id=t:=by
 have a:=VR h;exact⟨l[JF l t],List.getElem_mem _,Yb h a⟩
theorem vU{n:Int}{l:List (Sl α)}(h:ZD n l)(t:Int):uE l t=true↔∃s∈l,s.id=t:=by
 refine⟨yl,?_⟩;rintro⟨s,a,rfl⟩;obtain⟨k,b,rfl⟩:=List.mem_iff_getElem.1 a;exact RU h b
theorem fq:ZD 0 ([]:List (Sl α)):=⟨List.Pairwise.nil,fun _ h=>absurd h FA⟩
theorem gq{n:Int}{l:List (Sl α)}(h:ZD n l)(hn:0<=n)(x:α):ZD (n+1) (l++[⟨n+1,x⟩]):=by
 refine⟨List.pairwise_append.2 ⟨h.1,by simp,fun a e b d=>?_⟩,fun s c=>?_⟩
 ·simp only[List.mem_singleton] at d;subst d;have:=h.2 a e;show a.id<n+1;omega
 ·simp only[List.mem_append,List.mem_singleton] at c;rcases c with c|rfl
  ·have:=h.2 s c;omega
  ·show 1<=n+1/\n+1<=n+1;omega
theorem zl{n:Int}{l:List (Sl α)}(h:ZD n l)(k:Nat):ZD n (l.eraseIdx k):=
 ⟨h.1.sublist (List.eraseIdx_sublist _ _),fun s a=>h.2 s ((List.eraseIdx_sublist _ _).subset a)⟩
theorem iq{n:Int}{l:List (Sl α)}(h:ZD n l){k:Nat}{t:Int}(hk:kF l k t=true)(x:α):ZD n (l.set k ⟨t,x⟩):=by
 have b:=VR hk;have c:=Yb hk b;have key:∀i (a:i<(l.set k ⟨t,x⟩).length),(l.set k ⟨t,x⟩)[i].id=(l[i]'(by simpa using a)).id:=by
  intro i a;rw[List.getElem_set];split
  ·rename_i e;subst e;exact c.symm
  ·rfl
 refine⟨List.pairwise_iff_getElem.2 fun i j a f d=>?_,fun s g=>?_⟩
 ·rw[key i a,key j f];exact qP h (by simpa using a) (by simpa using f) d
 ·obtain⟨i,a,rfl⟩:=List.mem_iff_getElem.1 g;rw[key i a];exact h.2 _ (List.getElem_mem _)
theorem qX{β:Type}(l:List β)(k:Nat):l.eraseIdx k=l.take k++l.drop (k+1):=List.eraseIdx_eq_take_drop_succ l k
end P4
namespace P4
open Go.RowKit Kd
theorem ZV:(prog.info? 3).map (fun i=>(i.zero,i.size,i.bytes))=some (some (aA 0),1,8):=by kernel_rfl
theorem LH{P:Program}{e:TypeId}{z:Value}{size bytes:Nat}(h:(P.info? e).map (fun i=>(i.zero,i.size,i.bytes))=some (some z,size,bytes)):∃i,P.info? e=some i/\i.zero=some z/\i.size=size/\i.bytes=bytes:=by
 obtain⟨i,a,b,c,d⟩:=info_parts h;exact⟨i,a,b,c,d⟩
def kI:Kind prog Int where
 t:=34
 e:=3
 size:=1
 bytes:=8
 z:=aA 0
 cs:=fun a=>[aA a]
 ht:=underlying34
 info:=LH ZV
 zH:=rfl
 zG:=by decide
 BH:=by decide
 len:=fun _=>rfl
 one:=fun a u hu=>by simp at hu;subst hu;rfl
theorem aP{a b:Int}(h:a=b):Ending.returned (aA a)= .returned (aA b):=by rw[h]
theorem WC{a b:Bool}(h:a=b):Ending.returned (.bool a)= .returned (.bool b):=by rw[h]
def UI(a b:Int):Int:=if a<b then -1 else if b<a then 1 else 0
theorem jf(a b:Int)(w:World):jA 117 #[aA a,aA b] w fun e w'=>e= .returned (aA (UI a b))/\w=w':=by
 have d:∀(x:Int) (w:World),jA 156 #[aA x] w fun e w'=>e= .returned (.bool false)/\w=w':=by
  intro x w;go_enter func156,ntmps156;go_wp2;go_ret;exact⟨WC FA,rfl⟩
 have c:=Zh d;clear d;by_cases g:a<b
 ·have f:¬b<a:=dA;go_enter func117,ntmps117;go_wp2_with fail;refine PA (c _ _) ?_;go_wp2_with fail;refine PA (c _ _) ?_;go_wp2;go_ret;exact⟨aP (by unfold UI;rw[if_pos dA]),rfl⟩
 ·by_cases f:b<a
  ·go_enter func117,ntmps117;go_wp2_with fail;refine PA (c _ _) ?_;go_wp2_with fail;refine PA (c _ _) ?_;go_wp2;go_ret;exact⟨aP (by unfold UI;rw[if_neg dA,if_pos dA]),rfl⟩
  ·go_enter func117,ntmps117;go_wp2_with fail;refine PA (c _ _) ?_;go_wp2_with fail;refine PA (c _ _) ?_;go_wp2;go_ret;exact⟨aP (by unfold UI;rw[if_neg dA,if_neg dA]),rfl⟩
theorem Al(a b:Int):(a==b)=(UI a b==0):=by
 unfold UI;by_cases c:a<b
 ·rw[if_pos c,beq_eq_false_iff_ne.2 dA];rfl
 ·by_cases d:b<a
  ·rw[if_neg c,if_pos d,beq_eq_false_iff_ne.2 dA];rfl
  ·rw[if_neg c,if_neg d,beq_iff_eq.2 dA];rfl
theorem ja{p a:Nat}{x y:Bool}(h:p=a)(h2:x=y):Ending.returned (.tuple #[aA a,.bool y])= .returned (.tuple #[aA p,.bool x]):=by rw[h,h2]
theorem Bl{α:Type}{N:Int}{l:List (Sl α)}(h:ZD N l){j:Nat}(hj:j<l.length){t:Int}(ht:l[j].id<t){k:Nat}(hk:k<l.length)(hkj:k<=j):l[k].id<t:=by
 rcases Nat.lt_or_eq_of_le hkj with hlt|rfl
 ·have:=qP h hk hj hlt;omega
 ·exact ht
theorem Dl{α:Type}{N:Int}{l:List (Sl α)}(h:ZD N l){j:Nat}(hj:j<l.length){t:Int}(ht:t<=l[j].id){k:Nat}(hk:k<l.length)(hkj:j<=k):t<=l[k].id:=by
 rcases Nat.lt_or_eq_of_le hkj with hlt|rfl
 ·have:=qP h hj hk hlt;omega
 ·exact ht
def cE(p:Nat)(v:Value)(k:Nat):Prop:=k=p\/v.ownBlock=some k
theorem D0(b o:Nat)(x:Int)(w:World)(hc:w.cell? (cA b o)=some (aA x)):
 jA 75 #[.pointer (some (cA b o))] w fun e w'=>e= .returned (aA x)/\w=w':=by
 have a:=run_call_load (P:=prog) (f:=114) func114 (by kernel_rfl) (by kernel_rfl) (by kernel_rfl) .i64 rfl hc;go_enter func75,ntmps75;go_wp2;go_ret;exact⟨rfl,rfl⟩
theorem jq(b o:Nat)(x:Int)(w:World)(hx:0<=x)(hx2:x<=1000000)(hc:w.cell? (cA b o)=some (aA x))(hf:w.frozen? (cA b o)=false):
 jA 118 #[.pointer (some (cA b o)),aA 1] w fun e w'=>e= .returned (aA (x+1))/\w.setCell (cA b o) (aA (x+1))=w':=by
 have a:=run_call_add (P:=prog) (f:=157) func157 (by kernel_rfl) (by kernel_rfl) (by kernel_rfl) .i64 rfl (y:=1) (s:=x+1) hc hf (by simp[go_sem,IntKind.wrap_i64];omega);go_enter func118,ntmps118;go_wp2;go_ret;exact⟨rfl,rfl⟩
theorem ji(b o:Nat)(x:Int)(u:Value)(w:World)(hc:w.cell? (cA b o)=some u)(hf:w.frozen? (cA b o)=false):
 jA 113 #[.pointer (some (cA b o)),aA x] w fun e w'=>e= .returned (.tuple #[])/\w.setCell (cA b o) (aA x)=w':=by
 have a:=run_call_store (P:=prog) (f:=155) func155 (by kernel_rfl) (by kernel_rfl) (by kernel_rfl) rfl (k:=.i64) (y:=x) hc hf;go_enter func113,ntmps113;go_wp2
 go_end0
 exact⟨rfl,rfl⟩
end P4
namespace P1
def jH(c:UInt8):Bool:=decide (97<=(c.toNat:Int))&&decide ((c.toNat:Int)<=122)
def WK(c:UInt8):Bool:=decide (48<=(c.toNat:Int))&&decide ((c.toNat:Int)<=57)
def AG(c:UInt8):Bool:=jH c || WK c || decide ((c.toNat:Int)=45)
def JC:uA->Bool
 |[]=>false
 |c:: r=>decide (r.length<12)&&jH c&&r.all AG
def okB(c:UInt8):Bool:=decide (32<=(c.toNat:Int))&&decide ((c.toNat:Int)<=126)
def yC(l:uA):Bool:=decide (l.length<=60)&&l.all okB
theorem WC{a b:Bool}(h:a=b):Ending.returned (.bool a)= .returned (.bool b):=by rw[h]
theorem Tp{c:UInt8}{p:Prop}[Decidable p](h:p↔(97<=(c.toNat:Int)/\(c.toNat:Int)<=122)):decide p=jH c:=by
 unfold jH;simp[h]
theorem Up{c:UInt8}(h:(c.toNat:Int)<97\/122<(c.toNat:Int)):jH c=false:=by
 unfold jH;simp;omega
theorem Vp{c:UInt8}(h:(c.toNat:Int)<48\/57<(c.toNat:Int)):WK c=false:=by
 unfold WK;simp;omega
theorem NU{c:UInt8}(h:jH c=true):AG c=true:=by simp[AG,h]
theorem Wp{c:UInt8}(h:WK c=true):AG c=true:=by simp[AG,h]
theorem il{c:UInt8}(h:((c.toNat:Int) != 45)=false):AG c=true:=by
 have:(c.toNat:Int)=45:=(by simpa using h);simp[AG,this]
theorem gu{c:UInt8}(h1:¬jH c=true)(h2:¬WK c=true)(h3:((c.toNat:Int) != 45)=true):AG c=false:=by
 have h:¬(c.toNat:Int)=45:=(by simpa using h3);simp[AG,h1,h2,h]
theorem toList_nil{s:qA}(h:s.size=0):s.toList=[]:=by
 rw[ByteArray.toList_eq];apply List.eq_nil_of_length_eq_zero;simpa using h
theorem toList_cons{s:qA}(h:0<s.size):s.toList.isEmpty=false:=by
 rw[ByteArray.toList_eq];cases e:s.data.toList with
 |nil=>
  have:s.data.toList.length=s.size:=FA;rw[e] at this;simp at this;omega
 |cons c r=>rfl
def XK(s:qA)(k:Nat):Prop:=∀j (h:j<s.size),1<=j->j<k->AG s[j]=true
theorem XK.one(s:qA):XK s 1:=fun _ _ b a=>absurd a dA
theorem XK.next{s:qA}{k:Nat}(h:XK s k)(hk:k<s.size)(hi:AG s[k]=true):XK s (k+1):=by
 intro j a b c;by_cases e:j=k
 ·subst e;exact hi
 ·exact h j a b dA
theorem fa(s:qA)(k:Nat)(h:k<s.size):s.data.toList[k]'(by simpa using h)=s[k]:=rfl
theorem ef{s:qA}(h:s.size=0):JC s.data.toList=false:=by
 have:s.data.toList=[]:=by
  apply List.eq_nil_of_length_eq_zero;simpa using h
 rw[this];rfl
theorem BQ(s:qA)(h:0<s.size):∃r,s.data.toList=s[0]:: r/\r.length+1=s.size/\∀j (hj:j<r.length) (hs:j+1<s.size),r[j]=s[j+1]:=by
 cases e:s.data.toList with
 |nil=>
  have:s.data.toList.length=s.size:=FA;rw[e] at this;simp at this;omega
 |cons c r=>
  have a:s.data.toList.length=s.size:=FA;have b:=fa s 0 h;refine⟨r,?_,?_,?_⟩
  ·rw[<-b];simp[e]
  ·rw[e] at a;simpa using a
  ·intro j hj hs;have:=fa s (j+1) hs;rw[<-this];simp[e]
theorem og{s:qA}(h:12<s.size):JC s.data.toList=false:=by
 obtain⟨r,e,a,_⟩:=BQ s dA;rw[e];simp[JC];omega
theorem qg{s:qA}(h:0<s.size)(h0:jH s[0]=false):JC s.data.toList=false:=by
 obtain⟨r,e,a,_⟩:=BQ s dA;rw[e];simp[JC,h0]
theorem Xh{s:qA}{k:Nat}(h1:1<=k)(h:k<s.size)(h0:AG s[k]=false):JC s.data.toList=false:=by
 obtain⟨r,e,b,a⟩:=BQ s dA;rw[e];have:r.all AG=false:=by
  rw[List.all_eq_false];obtain⟨m,rfl⟩:∃m,k=m+1:=⟨k-1,by omega⟩;exact⟨r[m],List.getElem_mem _,by rw[a m dA h,h0];simp⟩
 simp only[JC,this,Bool.and_false]
theorem ll{s:qA}(h:0<s.size)(h12:s.size<=12)(h0:jH s[0]=true)(ha:XK s s.size):JC s.data.toList=true:=by
 obtain⟨r,e,c,a⟩:=BQ s dA;rw[e];have:r.all AG=true:=by
  rw[List.all_eq_true];intro x hx;obtain⟨j,b,rfl⟩:=List.getElem_of_mem hx;rw[a j b dA];exact ha (j+1) dA dA dA
 simp[JC,this,h0];omega
def YK(s:qA)(k:Nat):Prop:=∀j (h:j<s.size),j<k->okB s[j]=true
theorem YK.zero(s:qA):YK s 0:=fun _ _ a=>absurd a dA
theorem YK.next{s:qA}{k:Nat}(h:YK s k)(hk:k<s.size)(h1:32<=(s[k].toNat:Int))(h2:(s[k].toNat:Int)<=126):YK s (k+1):=by
 intro j a h2;by_cases e:j=k
 ·subst e;unfold okB;simp;omega
 ·exact h j a dA
theorem ml{s:qA}(h:s.size<=60)(ha:YK s s.size):yC s.data.toList=true:=by
 have:s.data.toList.all okB=true:=by
  rw[List.all_eq_true];intro x hx;obtain⟨j,b,rfl⟩:=List.getElem_of_mem hx;have a:j<s.size:=(by simpa using b);exact ha j a a
 simp only[yC,this,Bool.and_true];simp;exact h
theorem MY{s:qA}{k:Nat}(h:k<s.size)(h0:(s[k].toNat:Int)<32\/126<(s[k].toNat:Int)):yC s.data.toList=false:=by
 have:s.data.toList.all okB=false:=by
  rw[List.all_eq_false];refine⟨s[k],List.getElem_mem (by simpa using h),?_⟩;unfold okB;simp;omega
 simp only[yC,this,Bool.and_false]
theorem sg{s:qA}(h:60<s.size):yC s.data.toList=false:=by
 simp[yC];omega
def dC(l:uA):Bool:=l==[98,114] || l==[104,114] || l==[105,109,103] || l==[105,110,112,117,116]
theorem WQ{s:qA}{b:Bool}(h:(s.toList==[98,114] || s.toList==[104,114] || s.toList==[105,109,103] || s.toList==[105,110,112,117,116])=b):b=dC s.data.toList:=by
 rw[<-h,ByteArray.toList_eq];rfl
theorem Xb{c:UInt8}(h:AG c=true):okB c=true:=by
 unfold AG jH WK at h;unfold okB;simp at h|-;omega
theorem Xp{c:UInt8}(h:jH c=true):okB c=true:=Xb (NU h)
theorem yT{c:UInt8}{r:uA}(h:JC (c:: r)=true):r.length<12/\jH c=true/\r.all AG=true:=by
 simp only[JC,Bool.and_eq_true,decide_eq_true_eq] at h;exact⟨h.1.1,h.1.2,h.2⟩
theorem ug{l:uA}(h:JC l=true):yC l=true:=by
 cases l with
 |nil=>rfl
 |cons c r=>
  obtain⟨d,b,a⟩:=yT h;have:r.all okB=true:=by
   rw[List.all_eq_true] at a|-;exact fun x hx=>Xb (a x hx)
  simp only[yC,List.all_cons,Xp b,this,Bool.and_true,List.length_cons,decide_eq_true_eq];omega
end P1
namespace P3
structure At where
 nm:qA
 vl:qA
 st:Bool
def At.none:At:=⟨⟨#[]⟩,⟨#[]⟩,false⟩
def GP(s:qA)(a:At):Bool:=a.nm.toList==s.toList
def PG(l:List At)(s:qA):Option At:=l.find? (GP s)
def uE(l:List At)(s:qA):Bool:=(PG l s).isSome
theorem vg{l:List At}{s:qA}{n:Nat}(hn:l.length=n)(h:PG (l.take n) s=none):PG l s=none:=by subst hn;simpa using h
theorem wg{l:List At}{s:qA}{k:Nat}(h:PG (l.take k) s=none)(hk:k<l.length)(he:(l[k].nm.toList==s.toList)=false):PG (l.take (k+1)) s=none:=by
 rw[List.take_succ_eq_append_getElem hk,PG,List.find?_append];unfold PG at h;rw[h];simp[GP,he]
theorem xg{l:List At}{s:qA}{k:Nat}(h:PG (l.take k) s=none)(hk:k<l.length)(he:(l[k].nm.toList==s.toList)=true):PG l s=some l[k]:=by
 have e:List.find? (GP s) (l.take k++(l[k]:: l.drop (k+1)))=some l[k]:=by
  unfold PG at h;rw[List.find?_append,h,List.find?_cons];simp[GP,he]
 rw[<-List.drop_eq_getElem_cons hk,List.take_append_drop] at e;exact e
theorem vU{l:List At}{s:qA}:uE l s=true↔∃a∈l,a.nm.toList=s.toList:=by
 unfold uE PG;rw[List.find?_isSome];simp[GP]
theorem jT{l:List At}{s:qA}:uE l s=false↔∀a∈l,a.nm.toList≠s.toList:=by
 rw[<-Bool.not_eq_true,vU];simp
def kF(a b:At):Bool:=a.nm.toList==b.nm.toList&&a.vl.toList==b.vl.toList&&a.st==b.st
def IE:List At->List At->Bool
 |[],[]=>true
 |a:: l,b:: m=>kF a b&&IE l m
 |_,_=>false
theorem ql(a:At):kF a a=true:=by simp[kF]
theorem NY{l m:List At}(h:l.length≠m.length):IE l m=false:=by
 induction l generalizing m with
 |nil=>cases m<;>simp_all [IE]
 |cons a l ih=>
  cases m with
  |nil=>rfl
  |cons b m=>simp only[IE,ih (by simpa using h),Bool.and_false]
theorem OY{l m:List At}{k:Nat}(hk:k<l.length)(hm:k<m.length)(h:kF l[k] m[k]=false):IE l m=false:=by
 induction l generalizing m k with
 |nil=>simp at hk
 |cons a l ih=>
  cases m with
  |nil=>rfl
  |cons b m=>
   cases k with
   |zero=>simp at h;simp[IE,h]
   |succ k=>simp at h hk hm;simp[IE,ih hk hm h]
def II(l m:List At)(k:Nat):Prop:=∀j (h:j<l.length) (h':j<m.length),j<k->kF l[j] m[j]=true
theorem II.zero(l m:List At):II l m 0:=fun _ _ _ h=>absurd h dA
theorem II.next{l m:List At}{k:Nat}(h:II l m k)(hk:k<l.length)(hm:k<m.length)(hb:kF l[k] m[k]=true):II l m (k+1):=by
 intro j b a c;by_cases e:j=k
 ·subst e;exact hb
 ·exact h j b a dA
theorem II.all{l m:List At}{k:Nat}(h:II l m k)(hl:l.length=k)(hm:m.length=k):IE l m=true:=by
 induction l generalizing m k with
 |nil=>
  cases m with
  |nil=>rfl
  |cons b m=>simp at hl hm;omega
 |cons a l ih=>
  cases m with
  |nil=>simp at hl hm;omega
  |cons b m=>
   have d:=h 0 FA FA (by simp at hl;omega);simp at d;simp only[IE,d,Bool.true_and];refine ih (k:=l.length) (fun j e c _=>?_) rfl (by simp at hl hm;omega);have:=h (j+1) (by simpa using e) (by simpa using c) (by simp at hl;omega);simpa using this
def bC(l:List At)(s:Bool):List At:=l.filter fun a=>a.st==s
theorem yg{l:List At}{s:Bool}{k:Nat}(hk:k<l.length)(h:(l[k].st==s)=true):bC (l.take (k+1)) s=bC (l.take k) s++[l[k]]:=by
 rw[List.take_succ_eq_append_getElem hk,bC,List.filter_append];simp[h,bC]
theorem Yh{l:List At}{s:Bool}{k:Nat}(hk:k<l.length)(h:(l[k].st==s)=false):bC (l.take (k+1)) s=bC (l.take k) s:=by
 rw[List.take_succ_eq_append_getElem hk,bC,List.filter_append];simp[h,bC]
theorem zg{l:List At}{s:Bool}{n:Nat}(hn:l.length=n):bC (l.take n) s=bC l s:=by subst hn;simp
theorem AO(l:List At)(s:Bool):(bC l s).length<=l.length:=List.length_filter_le _ _
theorem Ae(l:List At)(s:Bool)(k:Nat):(bC (l.take k) s).length<=l.length:=Nat.le_trans (AO _ _) (by rw[List.length_take];omega)
theorem BO{l:List At}{s:Bool}{a:At}:a∈bC l s↔a∈l/\a.st=s:=by simp[bC]
def uC(laid:List At):List At->List At
 |[]=>laid
 |a:: m=>if uE laid a.nm then uC laid m else uC (laid++[a]) m
def TC(l:List At):List At:=bC l true++bC l false
def lD(old want:List At):List At:=(uC (bC old true) (bC want false)).take 8
theorem Ge{laid m:List At}{a:At}(h:uE (uC laid m) a.nm=true):uC laid (m++[a])=uC laid m:=by
 induction m generalizing laid with
 |nil=>simp only[List.nil_append,uC] at h|-;rw[if_pos h]
 |cons b m ih=>
  simp only[List.cons_append,uC] at h|-;split
  ·rename_i hb;rw[if_pos hb] at h;exact ih h
  ·rename_i hb;rw[if_neg hb] at h;exact ih h
theorem Me{laid m:List At}{a:At}(h:uE (uC laid m) a.nm=false):uC laid (m++[a])=uC laid m++[a]:=by
 induction m generalizing laid with
 |nil=>simp only[List.nil_append,uC] at h|-;rw[if_neg (by simp[h])]
 |cons b m ih=>
  simp only[List.cons_append,uC] at h|-;split
  ·rename_i hb;rw[if_pos hb] at h;exact ih h
  ·rename_i hb;rw[if_neg hb] at h;exact ih h
theorem o0(laid m:List At):∃r,uC laid m=laid++r/\r.length<=m.length:=by
 induction m generalizing laid with
 |nil=>exact⟨[],by simp[uC],by simp⟩
 |cons b m ih=>
  simp only[uC];split
  ·obtain⟨r,a,c⟩:=ih laid;exact⟨r,a,by simp;omega⟩
  ·obtain⟨r,a,c⟩:=ih (laid++[b]);exact⟨b:: r,by rw[a];simp,by simp;omega⟩
theorem ff(laid m r:List At):uC laid (m++r)=uC (uC laid m) r:=by
 induction m generalizing laid with
 |nil=>rfl
 |cons b m ih=>simp only[List.cons_append,uC];split<;>exact ih _
theorem ye{laid m:List At}{k:Nat}(hk:k<m.length)(h:uE (uC laid (m.take k)) m[k].nm=true):uC laid (m.take (k+1))=uC laid (m.take k):=by
 rw[List.take_succ_eq_append_getElem hk];exact Ge h
theorem ze{laid m:List At}{k:Nat}(hk:k<m.length)(h:uE (uC laid (m.take k)) m[k].nm=false):uC laid (m.take (k+1))=uC laid (m.take k)++[m[k]]:=by
 rw[List.take_succ_eq_append_getElem hk];exact Me h
theorem di{laid m:List At}{k:Nat}(h:8<=(uC laid (m.take k)).length):(uC laid m).take 8=(uC laid (m.take k)).take 8:=by
 have e:uC laid m=uC (uC laid (m.take k)) (m.drop k):=(by rw[<-ff,List.take_append_drop]);obtain⟨r,a,_⟩:=o0 (uC laid (m.take k)) (m.drop k);rw[e,a,List.take_append_of_le_length h]
theorem rl(laid m:List At):(uC laid m).length<=laid.length+m.length:=by
 obtain⟨r,a,b⟩:=o0 laid m;rw[a,List.length_append];omega
theorem He(laid m:List At)(k:Nat):(uC laid (m.take k)).length<=laid.length+m.length:=
 Nat.le_trans (rl _ _) (by rw[List.length_take];omega)
theorem A0(l:List At):(TC l).length=l.length:=by
 unfold TC
 induction l with
 |nil=>rfl
 |cons a l ih=>
  rw[List.length_append] at ih|-;cases hs:a.st<;>simp[bC,hs] at ih|-<;>omega
theorem ZT(l m:List At):(lD l m).length<=8:=by unfold lD;rw[List.length_take];omega
def oM(l:List At)(j:Nat):Bool:=
 match l[j]? with
 |some a=>P1.JC a.nm.data.toList&&P1.yC a.vl.data.toList && !uE (l.take j) a.nm
 |none=>true
def KG(l:List At):Bool:=(List.range l.length).all (oM l)
def kC(l:List At):Bool:=decide (l.length<=8)&&KG l
theorem BL{l:List At}{k:Nat}(hk:k<l.length):oM l k=(P1.JC l[k].nm.data.toList&&P1.yC l[k].vl.data.toList && !uE (l.take k) l[k].nm):=by
 unfold oM;rw[List.getElem?_eq_getElem hk]
def lJ(l:List At)(k:Nat):Prop:=∀j,j<k->oM l j=true
theorem lJ.zero(l:List At):lJ l 0:=fun _ h=>absurd h dA
theorem lJ.next{l:List At}{k:Nat}(h:lJ l k)(hb:oM l k=true):lJ l (k+1):=by
 intro j a;by_cases e:j=k
 ·subst e;exact hb
 ·exact h j dA
theorem Yp{l:List At}{k:Nat}(hk:k<l.length)(h:oM l k=false):KG l=false:=by
 unfold KG;rw[List.all_eq_false];exact⟨k,List.mem_range.2 hk,by simp[h]⟩
theorem lJ.all{l:List At}{k:Nat}(h:lJ l k)(hl:l.length=k):KG l=true:=by
 unfold KG;rw[List.all_eq_true];intro j a;exact h j (by rw[<-hl];exact List.mem_range.1 a)
theorem wU{l:List At}{k:Nat}(hk:k<l.length)(h:oM l k=false):kC l=false:=by
 unfold kC;rw[Yp hk h];simp
theorem PY{l:List At}(h:8<l.length):kC l=false:=by
 unfold kC;simp;omega
theorem Zp{l:List At}{k:Nat}(h:lJ l k)(hl:l.length=k):kC l=decide (k<=8):=by
 unfold kC;rw[h.all hl,hl];simp
theorem AI{l:List At}:kC l=true↔l.length<=8/\(∀a∈l,P1.JC a.nm.data.toList=true/\P1.yC a.vl.data.toList=true)/\l.Pairwise fun a b=>a.nm.toList≠b.nm.toList:=by
 unfold kC KG;simp only[Bool.and_eq_true,decide_eq_true_eq,List.all_eq_true,List.mem_range];refine and_congr Iff.rfl ⟨fun h=>⟨fun a d=>?_,?_⟩,fun⟨h1,h2⟩ j c=>?_⟩
 ·obtain⟨j,c,rfl⟩:=List.getElem_of_mem d;have:=h j c;rw[BL c] at this;simp only[Bool.and_eq_true] at this;exact⟨this.1.1,this.1.2⟩
 ·rw[List.pairwise_iff_getElem];intro i j e c f;have:=h j c;rw[BL c] at this;simp only[Bool.and_eq_true,Bool.not_eq_true'] at this;exact jT.1 this.2 l[i] (by rw[List.mem_take_iff_getElem];exact⟨i,by omega,rfl⟩)
 ·rw[BL c];simp only[Bool.and_eq_true,Bool.not_eq_true'];refine⟨h1 _ (List.getElem_mem c),jT.2 fun a d=>?_⟩;obtain⟨i,e,rfl⟩:=List.mem_take_iff_getElem.1 d;exact(List.pairwise_iff_getElem.1 h2) i j dA c dA
def eM(a:At):Bool:=decide (a.nm.size<=100)&&decide (a.vl.size<=100)
def dK(l:List At):Bool:=decide (l.length<=20)&&l.all eM
end P3
namespace P4
open Go.RowKit Kd
theorem jc:(prog.info? 147).map (fun i=>(i.zero,i.size,i.bytes))=some (some (.agg #[aA 0,.pointer none]),2,16):=by kernel_rfl
theorem aW:(prog.info? 131).map (fun i=>(i.zero,i.size,i.bytes))=some (some (.agg #[oA,oA,.bool false]),3,40):=by kernel_rfl
def iG:Kind prog (Sl Nat) where
 t:=141
 e:=147
 size:=2
 bytes:=16
 z:=.agg #[aA 0,.pointer none]
 cs:=fun a=>[aA a.id,lA a.x]
 ht:=underlying141
 info:=LH jc
 zH:=rfl
 zG:=by decide
 BH:=by decide
 len:=fun _=>rfl
 one:=fun a u hu=>by simp at hu;rcases hu with rfl|rfl<;>rfl
def kA:Kind prog P3.At where
 t:=51
 e:=131
 size:=3
 bytes:=40
 z:=.agg #[oA,oA,.bool false]
 cs:=fun a=>[bA a.nm,bA a.vl,.bool a.st]
 ht:=underlying51
 info:=LH aW
 zH:=rfl
 zG:=by decide
 BH:=by decide
 len:=fun _=>rfl
 one:=fun a u hu=>by simp at hu;rcases hu with rfl|rfl|rfl<;>rfl
structure Sv where
 A:vA
 n:Nat
 c:Nat
def Sv.val(s:Sv):Value:=.slice s.A s.n s.c
theorem TS{w:World}{B:Nat}{A:vA}{l:List (Sl Nat)}(h:iG.AA w B A l){k:Nat}(hk:k<l.length):
 ∃b o,A=some (cA b o)/\b<B/\w.cell? ⟨b,o+k*2,none⟩=some (aA l[k].id)/\w.cell? ⟨b,o+k*2+1,none⟩=some (lA (l[k].x)):=by
 obtain⟨b,o,rfl,c,a⟩:=h.at hk;exact⟨b,o,rfl,c,a 0 _ rfl,a 1 _ rfl⟩
theorem xU(s:Sl Nat)(t:Int)(w:World):jA 116 #[.agg #[aA s.id,(lA s.x)],aA t] w fun e w'=>e= .returned (aA (UI s.id t))/\fA w w':=by
 go_enter func116,ntmps116;go_wp2_with fail;refine PA (jf _ _ _) ?_;go_wp2;go_ret;exact⟨rfl,Zb _ _⟩
def oa(w:World)(l:List (Sl Nat))(t:Int)(e:Ending)(w':World):Prop:=
 e= .returned (.tuple #[aA (JF l t),.bool (uE l t)])/\fA w w'
theorem mf(l:List (Sl Nat))(N:Int)(A:vA)(n c:Nat)(t:Int)(w:World)(hn:l.length=n)(hn2:n<=1000000)(hl:ZD N l)(H:iG.AA w w.heap.size A l):
 jA 115 #[.slice A n c,aA t,.func (.func 116) #[] #[]] w (oa w l t):=by
 have y:=Zh H;have m:=Zh hn;have z:=Zh hl;clear H hn hl;go_enter func115,ntmps115;go_wp2_with fail;go_loopw [9,10] (fun i j wr=>∃a b:Nat,a<=b/\b<=n/\i = aA a/\j = aA b/\Hid (∀k (h:k<l.length),k<a->l[k].id<t)/\Hid (∀k (h:k<l.length),b<=k->t<=l[k].id)/\Hid (fA w wr)) (fun i j _=>(intOf j-intOf i).toNat)
 case atStart=>exact⟨0,n,by omega,by omega,rfl,rfl,Zh (fun k _ h=>by omega),Zh (fun k h E=>by have:=m.out;omega),Zh Ze⟩
 case round=>
  obtain⟨a,b,F,G,rfl,rfl,s,u,d⟩:=hrel;by_cases I:a<b
  ·obtain⟨h,P⟩:∃h:Nat,((a:Int)+b)/2=h:=⟨(a+b)/2,by omega⟩;have J:a<=h:=dA;have E:h<b:=dA;have hn:h<n:=dA;have hl:h<l.length:=(IA m.out);obtain⟨g,o,rfl,K,L,M⟩:=TS (y.below d Zl) hl;by_cases v:l[h].id<t
   ·have B:UI l[h].id t<0:=(by unfold UI;rw[if_pos v];decide);go_wp2_with fail;refine(xU l[h] t _).mono ?_;rintro e C ⟨rfl,f⟩;have p:=Zh f;clear f;go_wp2_with fail;go_roundw
    case rel=>exact⟨h+1,b,by omega,by omega,by go_num,rfl,Zh (fun k x q=>Bl z hl v x dA),u,Zh (d.trans (p.mono d.size))⟩
    case measure=>simp[intOf];omega
   ·have O:¬UI l[h].id t<0:=(by unfold UI;rw[if_neg v];split<;>decide);go_wp2_with fail;refine(xU l[h] t _).mono ?_;rintro e C ⟨rfl,f⟩;have p:=Zh f;clear f;go_wp2_with fail;go_roundw
    case rel=>exact⟨a,h,by omega,by omega,rfl,rfl,s,Zh (fun k x q=>Dl z hl dA x q),Zh (d.trans (p.mono d.size))⟩
    case measure=>simp[intOf];omega
  ·obtain rfl:a=b:=dA
   have D:JF l t=a:=QU l t a (IA m.out) s u;have r:=Zh D;clear D s u;by_cases J:a<n
   ·have hl:a<l.length:=(IA m.out);obtain⟨g,o,rfl,K,L,M⟩:=TS (y.below d Zl) hl;go_wp2_with fail;refine(xU l[a] t _).mono ?_;rintro e C ⟨rfl,f⟩;have p:=Zh f;clear f;go_wp2_with fail;go_ret2;exact⟨ja r (by unfold uE;rw[r.out,ec hl];exact Al _ _),d.trans (p.mono d.size)⟩
   ·go_wp2_with fail;go_ret2;exact⟨ja r (by unfold uE;rw[r.out,xl (IA m.out)]),d⟩
structure YB(w:World)(B p R:Nat)(n:Int)(v:Value)(l:List (Sl Nat)):Prop where
 zA:w.heap[p]? = some (.cells #[aA R,aA n,v] 143 (0,0))
 own:iG.Own w B v l
 base:B<=p
 xD:ZD n l
 pos:0<=n
 len:l.length<=R
 room:R<=200
section
variable{w w':World}{B p R:Nat}{n:Int}{v:Value}{l:List (Sl Nat)}
theorem YB.lt(h:YB w B p R n v l):p<w.heap.size:=JA h.zA
theorem YB.c0(h:YB w B p R n v l):w.cell? (cA p 0)=some (aA R):=cell_of_row w p 0 _ _ (0,0) h.zA
theorem YB.c1(h:YB w B p R n v l):w.cell? (cA p 1)=some (aA n):=cell_of_row w p 1 _ _ (0,0) h.zA
theorem YB.c2(h:YB w B p R n v l):w.cell? (cA p 2)=some v:=cell_of_row w p 2 _ _ (0,0) h.zA
theorem YB.frozen(h:YB w B p R n v l)(i:Nat):w.frozen? (cA p i)=false:=by
 have:=h.zA;simp[World.frozen?,this]
theorem YB.VB(h:YB w B p R n v l)(hp:w'.heap[p]? = w.heap[p]?)(hv:∀g,v.ownBlock=some g->w'.heap[g]? = w.heap[g]?):YB w' B p R n v l:=
 ⟨hp.trans h.zA,h.own.VB hv,h.base,h.xD,h.pos,h.len,h.room⟩
theorem YB.but{S:Nat->Prop}(h:YB w B p R n v l)(hb:iA S w w')(hp:¬S p)(hv:∀g,v.ownBlock=some g->¬S g):YB w' B p R n v l:=
 h.VB (hb.block p h.lt hp) (fun g a=>hb.block g (h.own.lt a).2 (hv g a))
theorem YB.below{C:Nat}(h:YB w B p R n v l)(hb:Below C w w')(hC:w.heap.size<=C):YB w' B p R n v l:=
 h.VB (hb.block p (IA h.lt)) (fun g a=>hb.block g (IA ((h.own.lt a).2)))
theorem YB.dE{B':Nat}(h:YB w B p R n v l)(hB:B'<=B):YB w B' p R n v l:=⟨h.zA,h.own.dE hB,by have:=h.base;omega,h.xD,h.pos,h.len,h.room⟩
theorem YB.drewN(h:YB w B p R n v l)(k:Nat):YB (w.drewN k) B p R n v l:=⟨h.zA,h.own,h.base,h.xD,h.pos,h.len,h.room⟩
theorem YB.apart(h:YB w B p R n v l):v.ownBlock≠some p:=fun e=>by
 obtain⟨c,a⟩:=h.own.ty e;exact WA a h.zA pA rfl
theorem YB.other(h:YB w B p R n v l){g:Nat}{c:Array Value}{t:TypeId}{f:Nat×Nat}(hg:w.heap[g]? = some (.cells c t f))(h1:t≠143)(h2:t≠147):¬cE p v g:=by
 rintro(rfl|a)
 ·exact WA hg h.zA h1 rfl
 ·obtain⟨d,b⟩:=h.own.ty a;exact WA hg b h2 rfl
end
theorem qi(t:Int){B p R:Nat}{n:Int}{v:Value}{l:List (Sl Nat)}(w:World)(h:YB w B p R n v l):
 jA 76 #[lA p,aA t] w (oa w l t):=by
 obtain⟨A,k,c,rfl,f,a,b,j,g⟩:=h.own.slice;have m:=Zh f;have o:=Zh g;have q:=Zh h.xD;have s:=h.c2;have d:k<=1000000:=(by have:=h.len;have:=h.room;omega);clear f g j b a h;go_enter func76,ntmps76;go_wp2_with fail;refine(mf l n A k c t w m d q o).mono ?_;rintro e u ⟨rfl,i⟩;have r:=Zh i;clear i;go_wp2_with fail;go_ret2;exact⟨rfl,r⟩
end P4
namespace P1
open Go.RowKit
theorem MX(c:UInt8)(w:World):jA 218 #[.int .u8 (c.toNat:Int)] w fun e w'=>e= .returned (.bool (jH c))/\w=w':=by
 go_enter func218,ntmps218;go_wp2_with fail
 all_goals (go_ret;exact⟨WC (by first|(rw[Up dA])|exact Tp dA),rfl⟩)
theorem ei(c:UInt8)(w:World):jA 219 #[.int .u8 (c.toNat:Int)] w fun e w'=>e= .returned (.bool (WK c))/\w=w':=by
 go_enter func219,ntmps219;go_wp2_with fail
 all_goals (go_ret;exact⟨WC (by first|(rw[Vp dA])|(unfold WK;simp;omega)),rfl⟩)
theorem ZO(s:qA)(w:World)(hs:s.size<=maxLen):jA 195 #[bA s] w fun e w'=>e= .returned (.bool (JC s.data.toList))/\w=w':=by
 unfold maxLen at hs;by_cases f:s.size=0
 ·have m:s.toList=[]:=toList_nil f;have a:s.toList.isEmpty=true:=(by rw[m];rfl);go_enter func195,ntmps195;go_wp2_with fail;go_ret;exact⟨WC (ef f).symm,rfl⟩
 ·have g:0<s.size:=dA;have a:s.toList.isEmpty=false:=toList_cons g;have n:¬s.toList=[]:=(by intro e;rw[e] at a;cases a);clear f;by_cases j:12<s.size
  ·go_enter func195,ntmps195;go_wp2_with fail;go_ret;exact⟨WC (og j).symm,rfl⟩
  ·go_enter func195,ntmps195;go_wp2_with fail;refine PA (MX _ _) ?_;cases hl:jH s[0]
   ·go_wp2_with fail;go_ret;exact⟨WC (qg g hl).symm,rfl⟩
   ·have o:=Zh hl;go_wp2_with fail;clear hl;go_loop [3] (fun i=>∃k:Nat,1<=k/\k<=s.size/\i = aA k/\XK s k) (fun i=>s.size-(intOf i).toNat)
    case atStart=>exact⟨1,by omega,by omega,rfl,XK.one s⟩
    case round=>
     obtain⟨k,l,p,rfl,b⟩:=hrel;have c:=Zh b;clear b;by_cases d:k<s.size
     ·go_wp2_with (first|(go_at_call 218;refine PA (MX _ _) ?_)|(go_at_call 219;refine PA (ei _ _) ?_))
      all_goals first|(go_ret;exact⟨WC (Xh l d (gu ‹_› ‹_› ‹_›)).symm,rfl⟩)|skip
      all_goals
       go_round
       case rel=>exact⟨k+1,by omega,by omega,by go_num,c.next d (by first|exact NU ‹_›|exact Wp ‹_›|exact il ‹_›)⟩
       case measure=>simp[intOf];omega
     ·obtain rfl:k=s.size:=dA
      go_wp2_with fail;go_ret;exact⟨WC (ll g dA o c).symm,rfl⟩
theorem dN(s:qA)(w:World)(hs:s.size<=maxLen):jA 194 #[bA s] w fun e w'=>e= .returned (.bool (yC s.data.toList))/\w=w':=by
 unfold maxLen at hs;by_cases d:60<s.size
 ·go_enter func194,ntmps194;go_wp2_with fail;go_ret;exact⟨WC (sg d).symm,rfl⟩
 ·go_enter func194,ntmps194;go_wp2_with fail;go_loop [3] (fun i=>∃k:Nat,0<=k/\k<=s.size/\i = aA k/\YK s k) (fun i=>s.size-(intOf i).toNat)
  case atStart=>exact⟨0,by omega,by omega,rfl,YK.zero s⟩
  case round=>
   obtain⟨k,j,m,rfl,b⟩:=hrel;have c:=Zh b;clear b;by_cases a:k<s.size
   ·by_cases l:(s[k].toNat:Int)<32
    ·go_wp2_with fail;go_ret;exact⟨WC (MY a (.inl l)).symm,rfl⟩
    ·have f:32<=(s[k].toNat:Int):=dA;by_cases g:126<(s[k].toNat:Int)
     ·go_wp2_with fail;go_ret;exact⟨WC (MY a (.inr g)).symm,rfl⟩
     ·go_wp2_with fail;go_round
      case rel=>exact⟨k+1,by omega,by omega,by go_num,c.next a f dA⟩
      case measure=>simp[intOf];omega
   ·obtain rfl:k=s.size:=dA
    go_wp2_with fail;go_ret;exact⟨WC (ml dA c).symm,rfl⟩
end P1
namespace P4
open Go.RowKit Kd
theorem ju(w:World)(ty:TypeId)(b o c:Nat)(hc:∀j,j<2->(w.cell? ⟨b,o+j,none⟩).isSome=true)(hf:∀j,j<2->w.frozen? ⟨b,o+j,none⟩=false):
 (Builtin.clear_ #[141] ty #[.slice (some (cA b o)) 1 c]).run prog w= .ok (.tuple #[]) (w.setCells b o [aA 0,(.pointer none)]):=by
 have a:=run_storeCells_cells (P:=prog) b o [aA 0,(.pointer none)] 0 w (by simpa using hc) (by simpa using hf) (by simp[Value.oneCell']);simp only[Nat.add_zero] at a;have d:(Builtin.zeroCells (Value.agg #[aA 0,(.pointer none)]).cells 1).toList=[aA 0,(.pointer none)]:=by
  simp[Builtin.zeroCells,Value.cells,Array.range]
 simp[Builtin.clear_,run_underlying underlying141,d,a]
theorem qa{cur c1 c2:Array Value}{xs news zs:List Value}{a m s:Nat}(h:cur.toList.take ((a+1+m)*s)=xs)(hs:(a+1+m)*s<=cur.size)(hn:news=xs.drop ((a+1)*s))(hz:zs.length=s)
 (e1:c1.size=cur.size) (h1:∀k,k<cur.size->c1[k]? = if a*s<=k/\k<a*s+news.length then news[k-a*s]? else cur[k]?)
 (e2:c2.size=c1.size) (h2:∀k,k<c1.size->c2[k]? = if(a+m)*s<=k/\k<(a+m)*s+zs.length then zs[k-(a+m)*s]? else c1[k]?):
 c2.toList.take ((a+m)*s)=xs.take (a*s)++news:=by
 have g:(a+1+m)*s=a*s+s+m*s:=(by rw[Nat.add_mul,Nat.add_mul,Nat.one_mul]);have i:(a+m)*s=a*s+m*s:=Nat.add_mul _ _ _;have j:(a+1)*s=a*s+s:=(by rw[Nat.add_mul,Nat.one_mul]);have e:xs.length=a*s+s+m*s:=(by rw[<-h,List.length_take,Array.length_toList];omega);have f:news.length=m*s:=(by rw[hn,List.length_drop];omega);have hx:∀k,k<xs.length->xs[k]? = cur[k]?:=by
  intro k b;rw[<-h,List.getElem?_take,if_pos dA,Array.getElem?_toList]
 apply List.ext_getElem?;intro k;rw[List.getElem?_take];by_cases b:k<(a+m)*s
 ·rw[if_pos b,Array.getElem?_toList,h2 k dA,if_neg dA,h1 k dA];by_cases c:k<a*s
  ·rw[if_neg dA,List.getElem?_append_left (by rw[List.length_take];omega),List.getElem?_take,if_pos c,hx k dA]
  ·have d:(xs.take (a*s)).length=a*s:=(by rw[List.length_take];omega);rw[if_pos dA,List.getElem?_append_right dA,d]
 ·rw[if_neg b,List.getElem?_eq_none];rw[List.length_append,List.length_take];omega
theorem nf(g i r c:Nat){B:Nat}{l:List (Sl Nat)}(w:World)(hl:l.length=i+1+r)(hl2:i+1+r<=1000000)(h:iG.Own w B (.slice (some (cA g 0)) (i+1+r) c) l):
 jA 265 #[.slice (some (cA g 0)) (i+1+r) c,aA i,aA ((i:Int)+1)] w fun e w'=>
  e= .returned (.slice (some (cA g 0)) (i+r) c)/\iG.Own w' B (.slice (some (cA g 0)) (i+r) c) (l.eraseIdx i)/\iA (fun k=>k=g) w w':=by
 obtain⟨O,E,F,G,H⟩:=info_parts jc;rcases h.form with⟨hv,_⟩|⟨g',c',cur,hv,_,hBg,hlt,hh,qD,UC,f,x⟩
 ·cases hv
 injection hv with e1 e2 e3;injection e1 with e1;injection e1 with e1;subst e1;subst e3;clear e2;rw[hl] at qD x;have f:cur.size=c*2:=f;have x:cur.toList.take ((i+1+r)*2)=iG.cells l:=x;obtain⟨news,a⟩:∃news,news=iG.cells (l.drop (i+1)):=⟨_,rfl⟩;have y:news.length=r*2:=(by rw[a,Kind.dI,List.length_drop,hl];show(i+1+r-(i+1))*2=r*2;omega);have v:news=(iG.cells l).drop ((i+1)*2):=(by rw[a,Kind.JO];rfl);have b:∀k,w.drew.cell? (cA g k)=cur[k]?:=fun k=>cell_of_row w.drew g k _ _ (0,0) hh
 have P:Hid (news.length=r*2):=y;have Q:Hid (∀u∈news,u.oneCell'=true):=(by intro u m;rw[a] at m;exact Kind.CQ _ _ u m);have R:Hid (∀t,t<news.length->(w.drew.cell? ⟨g,0+i*2+t,none⟩).isSome=true/\w.drew.frozen? ⟨g,0+i*2+t,none⟩=false):=by
  intro t z;refine⟨by rw[b,Array.getElem?_eq_getElem dA];rfl,?_⟩;have n:w.drew.heap[g]? = some (.cells cur iG.e (0,0)):=hh;simp[World.frozen?,n]
 have p:∀t u,news[t]? = some u->w.drew.cell? ⟨g,(i+1)*2+t,none⟩=some u:=by
  intro t u m;have z:=(List.getElem?_eq_some_iff.1 m).1;rw[b,<-m,v,List.getElem?_drop,<-x,List.getElem?_take,if_pos dA,Array.getElem?_toList]
 obtain⟨A,hA,T⟩:∃A:Addr,(if c=i+1 then(some ((cA g 0):Addr)) else some ⟨g,(i+1)*2,none⟩)=some A/\Hid (∀t u,news[t]? = some u->w.drew.cell? (A.add t)=some u):=by
  by_cases C:c=i+1
  ·refine⟨(cA g 0),if_pos C,fun t u m=>?_⟩;have z:=(List.getElem?_eq_some_iff.1 m).1;omega
  ·refine⟨⟨g,(i+1)*2,none⟩,if_neg C,fun t u m=>?_⟩;rw[Addr.add_lit];exact p t u m
 obtain⟨d,o⟩:∃d,d=w.drew.setCells g (0+i*2) news:=⟨_,rfl⟩;have n:w.drew.heap[g]? = some (.cells cur iG.e (0,0)):=hh;obtain⟨U,D,I,L⟩:=cI g news (0+i*2) w.drew cur _ _ n;rw[<-o] at D;have V:∀J q,(Builtin.clear_ #[141] J #[.slice (some ⟨g,(i+r)*2,none⟩) (i+1+r-(i+r)) q]).run prog d= .ok (.tuple #[]) (d.setCells g ((i+r)*2) [aA 0,(.pointer none)]):=
  fun J q=>by
   rw[show i+1+r-(i+r)=1 by omega];exact ju d J g ((i+r)*2) q (fun j hj=>by rw[cell_of_row d g _ _ _ (0,0) D,Array.getElem?_eq_getElem dA];rfl) (fun j _=>by simp[World.frozen?,D])
 obtain⟨c2,M,K,N⟩:=cI g [aA 0,(.pointer none)] ((i+r)*2) d U _ _ D;have W:Hid (iG.Own (d.setCells g ((i+r)*2) [aA 0,(.pointer none)]) B (.slice (some (cA g 0)) (i+r) c) (l.eraseIdx i)):=by
  refine Kind.OH (by rw[List.length_eraseIdx_of_lt dA];omega) hBg M dA UC (by rw[K,I];exact f) ?_;have X:=qa (s:=2) x dA v (zs:=[aA 0,(.pointer none)]) rfl I (fun k Y=>by have:=L k Y;rwa[Nat.zero_add] at this) K N;rw[show iG.size=2 from rfl,X,qX,Kind.rL,Kind.FO,<-a];rfl
 have Z:Hid (iA (fun k=>k=g) w (d.setCells g ((i+r)*2) [aA 0,(.pointer none)])):=by
  rw[o];exact iA.setCells (S:=fun k=>k=g) (iA.setCells (S:=fun k=>k=g) (iA.drew (iA.refl _ w)) (fun _=>rfl) _ _) (fun _=>rfl) _ _
 have hW:Hid (d=w.drew.setCells g (0+i*2) news):=o;have a0:i<=c:=dA;have a1:i+1<=c:=dA;have a2:((i:Int)==(i:Int)+1)=false:=beq_eq_false_iff_ne.2 dA;unfold maxLen at UC;have a3:(0:Int)<=(i:Int)+1:=dA;have a4:(i:Int)+1<=(i:Int)+1+(r:Int):=dA;clear o hh n f x a y v b p D I L M K N h hl F H;go_enter func265,ntmps265;go_wp2_with fail
 go_region_law (refine step_append_room rfl (.tmp 22) (.tmp 25) 141 rfl 147 O 2 underlying141 E G g 0 i c (by simp[Act.eval,Act.put]) A r (c-(i+1)) news (by simp[Act.eval,Act.put]) P T Q dA R ?_;rw[<-hW.out])
 go_wp2;go_ret;exact⟨rfl,W,Z⟩
end P4
namespace P3
open Go.RowKit
theorem OC{B:Nat}{a w:World}(h:Below B a w)(n:Nat):Below B a (w.drewN n):=⟨h.os,h.tape,h.output,h.size,h.block⟩
theorem WC{a b:Bool}(h:a=b):Ending.returned (.bool a)= .returned (.bool b):=by rw[h]
def AA(w:World)(B:Nat)(A:vA)(l:List At):Prop:=
 ∀k (h:k<l.length),∃b o,A=some (cA b o)/\b<B/\w.cell? ⟨b,o+k*3,none⟩=some (bA l[k].nm)/\w.cell? ⟨b,o+k*3+1,none⟩=some (bA l[k].vl)/\w.cell? ⟨b,o+k*3+2,none⟩=some (.bool l[k].st)
theorem AA.below{w w':World}{B C:Nat}{A:vA}{l:List At}(h:AA w B A l)(hb:Below C w w')(hBC:B<=C):AA w' B A l:=by
 intro k c;obtain⟨b,o,d,a,e,f,g⟩:=h k c;refine⟨b,o,d,a,?_,?_,?_⟩
 ·rw[hb.cell (by show b<C;omega)];exact e
 ·rw[hb.cell (by show b<C;omega)];exact f
 ·rw[hb.cell (by show b<C;omega)];exact g
theorem AA.more{w:World}{B B':Nat}{A:vA}{l:List At}(h:AA w B A l)(hB:B<=B'):AA w B' A l:=by
 intro k a;obtain⟨b,o,c,d,e⟩:=h k a;exact⟨b,o,c,by omega,e⟩
theorem AA.take{w:World}{B:Nat}{A:vA}{l:List At}(h:AA w B A l)(n:Nat):AA w B A (l.take n):=by
 intro k c;obtain⟨b,o,d,a,e⟩:=h k (by rw[List.length_take] at c;omega);exact⟨b,o,d,a,by simpa using e⟩
theorem AA.grown{w w':World}{B:Nat}{A:vA}{l:List At}{row:Option Nat}(h:AA w B A l)(hg:w.grownBy w' row)(hB:B<=w.heap.size)(hr:∀b o,A=some (cA b o)->some b≠row):AA w' B A l:=by
 intro k d;obtain⟨b,o,c,a,e,f,g⟩:=h k d;have key:∀i,w'.cell? (cA b i)=w.cell? (cA b i):=fun i=>World.cell?_of_block (hg.block b dA (hr b o c))
 exact⟨b,o,c,a,by rw[key];exact e,by rw[key];exact f,by rw[key];exact g⟩
theorem AA.one{w:World}{g:Nat}{a:At}(h:w.heap[g]? = some (.cells #[bA a.nm,bA a.vl,.bool a.st] 131 (0,0))):AA w (g+1) (some (cA g 0)) [a]:=by
 intro k b;have:k=0:=(by simpa using b);subst this;exact⟨g,0,rfl,by omega,cell_of_row w g 0 _ _ (0,0) h,cell_of_row w g 1 _ _ (0,0) h,cell_of_row w g 2 _ _ (0,0) h⟩
theorem AA.on{w w':World}{A:vA}{l:List At}(h:AA w w.heap.size A l)(hb:fA w w'):AA w' w'.heap.size A l:=(h.below hb Zl).more hb.size
def uD(w:World)(g:Nat)(a:At):Prop:=w.heap[g]? = some (.cells #[bA a.nm,bA a.vl,.bool a.st] 131 (0,0))
section
variable{w w':World}{g:Nat}{a:At}
theorem uD.lt(h:uD w g a):g<w.heap.size:=by
 rcases Nat.lt_or_ge g w.heap.size with hlt|hge
 ·exact hlt
 ·unfold uD at h;rw[Array.getElem?_eq_none hge] at h;cases h
theorem uD.c0(h:uD w g a):w.cell? (cA g 0)=some (bA a.nm):=cell_of_row w g 0 _ _ (0,0) h
theorem uD.c1(h:uD w g a):w.cell? (cA g 1)=some (bA a.vl):=cell_of_row w g 1 _ _ (0,0) h
theorem uD.c2(h:uD w g a):w.cell? (cA g 2)=some (.bool a.st):=cell_of_row w g 2 _ _ (0,0) h
theorem uD.frozen(h:uD w g a)(i:Nat):w.frozen? (cA g i)=false:=by
 unfold uD at h;simp[World.frozen?,h]
theorem uD.new(w:World)(a:At):uD (w.alloc (.cells #[bA a.nm,bA a.vl,.bool a.st] 131)) w.heap.size a:=heap_alloc_new w _
theorem uD.GF(w:World)(o:Obj)(a:At):uD ((w.alloc o).alloc (.cells #[bA a.nm,bA a.vl,.bool a.st] 131)) (w.heap.size+1) a:=by
 have:=uD.new (w.alloc o) a;simpa using this
theorem uD.alloc(h:uD w g a)(o:Obj):uD (w.alloc o) g a:=(Below.heap_alloc w o g h.lt).trans h
theorem uD.below{B:Nat}(h:uD w g a)(hb:Below B w w')(hg:g<B):uD w' g a:=(hb.block g hg).trans h
end
theorem ie:prog.eqGuardType prog.depth 131=false:=by kernel_rfl
theorem Nv:prog.stoodInHeld 131=false:=by kernel_rfl
theorem iu(a b:At)(d:Nat)(w:World):(Op.equalIn (d+2) 131 (.agg #[bA a.nm,bA a.vl,.bool a.st]) (.agg #[bA b.nm,bA b.vl,.bool b.st])).run prog w= .ok (kF a b) w:=by
 rw[run_equalIn_struct w (d+1) 131 _ _ (by unfold Program.fieldsOf;rw[underlying131]) Nv];simp[Program.fieldsOf,underlying131,Op.eqFields,go_sem,underlying9,underlying4,part];unfold kF;by_cases c:a.nm.toList=b.nm.toList<;>by_cases e:a.vl.toList=b.vl.toList<;>by_cases f:a.st=b.st<;>simp[c,e,f]
theorem UR{a b:At}{r:Bool}(h:kF a b=r)(w:World):(binOp .neq 131 (.agg #[bA a.nm,bA a.vl,.bool a.st]) (.agg #[bA b.nm,bA b.vl,.bool b.st])).run prog w= .ok (.bool (!r)) w:=by
 rw[run_neq_struct,iu a b 9998 w,h];rfl
end P3
namespace P4
open Go.RowKit Kd
def mx(w:World)(R:Nat)(e:Ending)(w':World):Prop:=
 ∃p:Nat,e= .returned (.tuple #[lA p,.nilIface])/\YB w' w.heap.size p R 0 (tA) []/\fA w w'
theorem lq(r:Int)(w:World)(h:r<1\/200<r):jA 45 #[aA r] w fun e w'=>
 e= .returned (.tuple #[.pointer none,.iface 29 (aA 1)])/\w=w':=by
 by_cases a:r<1
 ·go_enter func45,ntmps45;go_wp2;go_ret2;exact⟨rfl,rfl⟩
 ·have b:200<r:=dA;go_enter func45,ntmps45;go_wp2;go_ret2;exact⟨rfl,rfl⟩
theorem Il(r:Int)(w:World)(h1:1<=r)(h2:r<=200):jA 45 #[aA r] w (mx w r.toNat):=by
 obtain⟨R,rfl⟩:=Int.eq_ofNat_of_zero_le (show 0<=r by omega);have b:¬(R:Int)<1:=dA;have c:¬200<(R:Int):=dA;have a:R<=200:=dA;go_enter func45,ntmps45;go_wp2;go_ret2;exact⟨_,rfl,⟨heap_alloc_new w _,Kind.Own.nil _ _ _,Zl,fq,by omega,by simp,a⟩,Zb _ _⟩
section
variable{B p R:Nat}{n:Int}{v:Value}{l:List (Sl Nat)}
theorem ti{m:Nat}(w:World)(hm:l.length=m)(h:YB w B p R n v l):jA 74 #[lA p] w fun e w'=>e= .returned (aA m)/\w=w':=by
 obtain⟨A,k,c,rfl,d,a,b,f,g⟩:=h.own.slice;obtain rfl:k=m:=dA
 have j:=h.c2;have i:k<=1000000:=(by have:=h.len;have:=h.room;omega);clear g f b a h d hm;go_enter func74,ntmps74;go_wp2;go_ret;exact⟨rfl,rfl⟩
theorem ui{m:Int}(w:World)(hn:n<=100000)(hm:m=n+1)(h:YB w B p R n v l):jA 39 #[lA p] w fun e w'=>e= .returned (aA m)/\w=w':=by
 subst hm;have a:=h.c1;have b:=h.pos;clear h;go_enter func39,ntmps39;go_wp2_with fail;refine PA (D0 _ _ _ _ a) ?_;go_wp2;go_ret;exact⟨rfl,rfl⟩
theorem wi(w:World)(h:YB w B p R n v l):jA 73 #[lA p] w fun e w'=>e= .returned (aA R)/\w=w':=by
 have a:=h.c0;clear h;go_enter func73,ntmps73;go_wp2;go_ret;exact⟨rfl,rfl⟩
def ox(w:World)(B p R:Nat)(n:Int)(v:Value)(l:List (Sl Nat))(x:Nat)(e:Ending)(w':World):Prop:=
 e= .returned (.tuple #[aA (n+1),.nilIface])/\∃v',YB w' B p R (n+1) v' (l++[⟨n+1,x⟩])/\iA (cE p v) w w'/\∀g,v'.ownBlock=some g->v.ownBlock=some g\/w.heap.size<=g
theorem xi(x:Nat)(w:World)(hl:l.length=R)(h:YB w B p R n v l):jA 78 #[lA p,(lA x)] w fun e w'=>
 e= .returned (.tuple #[aA 0,.iface 29 (aA 6)])/\fA w w':=by
 obtain⟨A,k,c,rfl,d,a,b,f,g⟩:=h.own.slice;have j:=h.c0;have m:=h.c2;have i:R<=k:=dA;have o:R<=200:=h.room;clear g f b a h d hl;go_enter func78,ntmps78;go_wp2_with fail;go_quiet (fail);go_wp2_with fail;go_ret2;exact⟨rfl,OC Ze _⟩
theorem Jl(x:Nat)(w:World)(hl:l.length<R)(hn:n<=100000)(h:YB w B p R n v l):jA 78 #[lA p,(lA x)] w (ox w B p R n v l x):=by
 obtain⟨A,k,c,rfl,K,E,F,Q,T⟩:=h.own.slice;have U:=h.c0;have L:=h.c1;have C:=h.c2;have M:=h.frozen 1;have H:=Zh h;have N:=h.pos;have V:k<R:=dA;have W:R<=200:=h.room;have t:=Zh K;clear T Q F E h K hl;go_enter func78,ntmps78;go_wp2_with fail;go_quiet (fail);go_wp2_with fail;refine(jq _ _ _ _ N dA (by exact L) (by exact M)).mono ?_;rintro e s ⟨rfl,o⟩;have f:s.heap[p]? = some (.cells #[aA R,aA (n+1),.slice A k c] 143 (0,0)):=by
  rw[<-o];exact heap_set (by exact H.zA) 1 _
 have u:=Zh f;have G:Hid (iG.Own s B (.slice A k c) l):=Zh (H.own.VB fun g i=>by
  rw[<-o];exact Below.heap_setCell _ _ _ _ (by rintro rfl;exact H.apart i))
 have r:Hid (iA (cE p (.slice A k c)) w s):=Zh (by
  rw[<-o];exact iA.setCell (iA.drewN (iA.refl _ _) _) (fun _=> .inl rfl) _)
 have X:=iB 2 f;have Y:B<=s.heap.size:=(by have:=H.base;have:=H.lt;have:=r.size;omega);clear o f U L C M;go_wp2_with (at_builtin;refine iG.QF rfl _ _ rfl (v:=.slice A k c) (l:=l) (m:=[⟨n+1,x⟩]) (B:=B) rfl (G.alloc _) rfl rfl KF (Kind.AA.lit (heap_alloc_new _ _) rfl) (by have:=t.out;simp;omega) jB ?_;intro v' D j a y;have b:Hid (D.heap[p]? = some (.cells #[aA R,aA (n+1),.slice A k c] 143 (0,0))):=Zh ((a.block p (JA (JB u)) (fun e=>H.apart e.symm)).trans (JB u));have d2:=iB 2 b;have g2:D.frozen? (cA p 2)=false:=(by have Z:=b.out;simp[World.frozen?,Z]);obtain⟨O,P,C,rfl,_,_,_,_,_⟩:=j.slice;have q:=Zh j;have z:=Zh a;have I:Hid (∀g,(Value.slice O P C).ownBlock=some g->(Value.slice A k c).ownBlock=some g\/w.heap.size<=g):=Zh (by intro g i;rcases y with e|e<;>rw[e] at i;(exact .inl i);(have:=r.size;simp at i;exact .inr dA));clear j a y);go_ret2;have J:Hid (∀g,Value.ownBlock (.slice O P C)=some g->g≠p):=Zh fun g i e=>by
  subst e;obtain⟨d,hd⟩:=q.ty i;exact WA hd b pA rfl
 refine⟨rfl,_,⟨heap_set b 2 _,q.VB fun g i=>Below.heap_setCell _ _ _ _ (J g i),H.base,gq H.xD N x,by omega,by have:=t.out;simp;omega,W⟩,?_,I⟩;exact iA.setCell (iA.trans (r.alloc _) (iA.WG (S:=cE p (.slice A k c)) z (fun g i _=> .inr i)) (fun _ _ h=>h)) (fun _=> .inl rfl) _
end
end P4
namespace P3
open Go.RowKit
theorem C0{o o':Option At}(h:o=o'):Ending.returned (.tuple #[.agg #[bA (o.getD At.none).nm,bA (o.getD At.none).vl,.bool (o.getD At.none).st],.bool o.isSome])= .returned (.tuple #[.agg #[bA (o'.getD At.none).nm,bA (o'.getD At.none).vl,.bool (o'.getD At.none).st],.bool o'.isSome]):=by rw[h]
theorem sl(l:List At)(A:vA)(n c:Nat)(s:qA)(w:World)(hn:l.length=n)(hl:n<=1000000)(H:AA w w.heap.size A l):
 jA 248 #[.slice A n c,bA s] w fun e w'=>e= .returned (.tuple #[.agg #[bA ((PG l s).getD At.none).nm,bA ((PG l s).getD At.none).vl,.bool ((PG l s).getD At.none).st],.bool (PG l s).isSome])/\fA w w':=by
 have t:=Zh H;have f:=Zh hn;clear H hn;go_enter func248,ntmps248;go_wp2_with fail;go_loopw [10] (fun i wr=>∃k:Nat,k<=n/\i = aA k/\Hid (fA w wr)/\Hid (uD wr w.heap.size At.none)/\Hid (PG (l.take k) s=none)) (fun i _=>n-(intOf i).toNat)
 case atStart=>exact⟨0,by omega,rfl,Zh (Zb _ _),Zh (uD.new w At.none),Zh (by simp[PG])⟩
 case round=>
  obtain⟨k,y,rfl,g,d,j⟩:=hrel;have u:w.heap.size<wr.heap.size:=d.lt;have p:=d.c0;have q:=d.c1;have r:=d.c2;have z:=d.frozen 0;have B:=d.frozen 1;have C:=d.frozen 2;by_cases x:k<n
  ·have a:k<l.length:=(IA f.out);obtain⟨b,o,rfl,D,E,F,G⟩:=(t.below g Zl) k a;go_wp2_with fail
   ·refine bodyPost_ret (v:=.tuple #[.agg #[bA l[k].nm,bA l[k].vl,.bool l[k].st],.bool true]) (by simp[results,results248,go_sem,p,q,r,u]) rfl ⟨C0 (o:=some l[k]) (xg j a ‹_›).symm,?_⟩;refine Below.alloc (Below.setCell (Below.setCell (Below.setCell g ?_ _) ?_ _) ?_ _) ?_ _<;>first|exact Zl|(simp;omega)
   ·go_roundw
    case rel=>exact⟨k+1,by omega,by go_num,Zh (g.alloc dA _),Zh (d.alloc _),Zh (wg j a ‹_›)⟩
    case measure=>simp[intOf];omega
  ·obtain rfl:k=n:=dA
   have m:=Zh (vg f j);go_wp2_with fail;refine bodyPost_ret (v:=.tuple #[.agg #[bA At.none.nm,bA At.none.vl,.bool At.none.st],.bool false]) (by simp[results,results248,go_sem,p,q,r,At.none]) rfl ⟨C0 (o:=none) m.symm,?_⟩;refine Below.setCell (Below.setCell (Below.setCell g ?_ _) ?_ _) ?_ _<;>exact Zl
theorem PU(l:List At)(A:vA)(n c:Nat)(s:qA)(w:World)(hn:l.length=n)(hl:n<=1000000)(H:AA w w.heap.size A l):
 jA 220 #[.slice A n c,bA s] w fun e w'=>e= .returned (.bool (uE l s))/\fA w w':=by
 have f:=Zh H;have a:=Zh hn;clear H hn;go_enter func220,ntmps220;go_wp2_with fail;refine(sl l A n c s _ a hl f).mono ?_;rintro e g ⟨rfl,b⟩;have d:=Zh b;clear b;go_wp2_with fail;go_ret;exact⟨rfl,d.alloc d.size _⟩
theorem FC(l:List At)(A:vA)(n c:Nat)(s:qA)(w:World){r:Bool}(hr:uE l s=r)(hn:l.length=n)(hl:n<=1000000)(H:AA w w.heap.size A l):
 jA 220 #[.slice A n c,bA s] w fun e w'=>e= .returned (.bool r)/\fA w w':=by
 subst hr;exact PU l A n c s w hn hl H
theorem TJ(s:qA)(w:World){r:Bool}(h:P1.JC s.data.toList=r)(hs:s.size<=maxLen):jA 195 #[bA s] w fun e w'=>e= .returned (.bool r)/\w=w':=by
 subst h;exact P1.ZO s w hs
theorem GH(s:qA)(w:World){r:Bool}(h:P1.yC s.data.toList=r)(hs:s.size<=maxLen):jA 194 #[bA s] w fun e w'=>e= .returned (.bool r)/\w=w':=by
 subst h;exact P1.dN s w hs
theorem zT{P:Program}{f:FuncId}{args:Array Value}{w:World}{n:Nat}{v:Value}
 (h:Calls P f args (w.drewN n) fun e w'=>e= .returned v/\w.drewN n=w'):Calls P f args (w.drewN n) fun e w'=>e= .returned v/\∃m,w'=w.drewN m:=
 h.mono fun _ _ ⟨he,hm⟩=>⟨he,n,hm.symm⟩
theorem QY{a w w':World}{B:Nat}{o:Obj}(h:Below B a w)(hB:B<=w.heap.size)(n:Nat)(h2:Below ((w.alloc o).drewN n).heap.size ((w.alloc o).drewN n) w'):Below B a w':=
 (OC (h.alloc hB o) n).trans (h2.mono (by show B<=(w.alloc o).heap.size;simp;omega))
def Wf(l:List At):Prop:=∀a∈l,a.nm.size<=maxLen/\a.vl.size<=maxLen
theorem Wf.at_{l:List At}(h:Wf l){k:Nat}(hk:k<l.length):l[k].nm.size<=maxLen/\l[k].vl.size<=maxLen:=h _ (List.getElem_mem hk)
theorem ZO(l:List At)(A:vA)(n c:Nat)(w:World)(hn:l.length=n)(hl:n<=1000000)(qD:n<=c)(hwf:Wf l)(H:AA w w.heap.size A l):
 jA 196 #[.slice A n c] w fun e w'=>e= .returned (.bool (kC l))/\fA w w':=by
 have t:=Zh H;have u:=Zh hn;have B:=Zh hwf;clear H hn hwf;by_cases I:8<n
 ·go_enter func196,ntmps196;go_wp2_with fail;go_ret;exact⟨WC (PY (IA u.out)).symm,Ze⟩
 ·go_enter func196,ntmps196;go_wp2_with fail;go_loopw [10] (fun i wr=>∃k:Nat,k<=n/\i = aA k/\Hid (fA w wr)/\Hid (lJ l k)) (fun i _=>n-(intOf i).toNat)
  case atStart=>exact⟨0,by omega,rfl,Zh Ze,Zh (lJ.zero _)⟩
  case round=>
   obtain⟨k,J,rfl,g,z⟩:=hrel;have s:w.heap.size<=wr.heap.size:=g.size;by_cases C:k<n
   ·have a:k<l.length:=(IA u.out);obtain⟨b,o,rfl,K,L,M,N⟩:=(t.below g Zl) k a;obtain⟨j,m⟩:=B.at_ a;cases hnm:P1.JC l[k].nm.data.toList
    ·have d:=Zh hnm;clear hnm;go_wp2_with fail;go_quiet ((go_at_call 195;exact zT (TJ _ _ d j)));go_wp2_with fail;go_ret;exact⟨WC (wU a (by rw[BL a,d.out];rfl)).symm,OC (g.alloc s _) _⟩
    ·have d:=Zh hnm;clear hnm;cases htx:P1.yC l[k].vl.data.toList
     ·have f:=Zh htx;clear htx;go_wp2_with fail;go_quiet ((first|(go_at_call 195;exact zT (TJ _ _ d j))|(go_at_call 194;exact zT (GH _ _ f m))));go_wp2_with fail;go_ret;exact⟨WC (wU a (by rw[BL a,f.out];simp)).symm,OC (g.alloc s _) _⟩
     ·have f:=Zh htx;clear htx;cases hh:uE (l.take k) l[k].nm
      ·have q:=Zh hh;clear hh;go_wp2_with fail;have v:=Zh (uD.new wr l[k]);have D:(0:Int)<=(k:Int):=dA;have E:(k:Int)<=(c:Int):=dA;go_region_held3 (fun w'=>w'.cell? ⟨wr.heap.size,0,none⟩=some (bA l[k].nm)/\w'.cell? ⟨wr.heap.size,1,none⟩=some (bA l[k].vl)) (go_keep) ((first
        |(go_at_call 195;refine PA (TJ _ _ d j) ?_)
        |(go_at_call 194;refine(GH _ _ f m).mono ?_;rintro e w' ⟨rfl,rfl⟩)
        |(go_at_call 220;refine(FC (l.take k) (some (cA b o)) k c _ _ q jB dA (((t.take k).on g).on (by first|exact OC (Zb _ _) _|exact Below.drew (Zb _ _)))).mono ?_;rintro e x ⟨rfl,p⟩;have r:uD x wr.heap.size l[k]:=uD.below (by exact v) p FA;have F:=r.c0;have G:=r.c1;have y:=Zh p;clear p)))
       go_wp2_with fail;go_roundw
       case rel=>exact⟨k+1,by omega,by go_num,Zh (QY g s _ y),Zh (z.next (by rw[BL a,d.out,f.out,q.out];rfl))⟩
       case measure=>simp[intOf];omega
      ·have q:=Zh hh;clear hh;go_wp2_with fail;have v:=Zh (uD.new wr l[k]);have D:(0:Int)<=(k:Int):=dA;have E:(k:Int)<=(c:Int):=dA;go_region_held3 (fun w'=>w'.cell? ⟨wr.heap.size,0,none⟩=some (bA l[k].nm)/\w'.cell? ⟨wr.heap.size,1,none⟩=some (bA l[k].vl)) (go_keep) ((first
        |(go_at_call 195;refine PA (TJ _ _ d j) ?_)
        |(go_at_call 194;refine PA (GH _ _ f m) ?_)
        |(go_at_call 220;refine(FC (l.take k) (some (cA b o)) k c _ _ q jB dA (((t.take k).on g).on (by first|exact OC (Zb _ _) _|exact Below.drew (Zb _ _)))).mono ?_;rintro e x ⟨rfl,p⟩;have r:uD x wr.heap.size l[k]:=uD.below (by exact v) p FA;have F:=r.c0;have G:=r.c1;have y:=Zh p;clear p)))
       go_wp2_with fail;go_ret;exact⟨WC (wU a (by rw[BL a,q.out];simp)).symm,QY g s _ y⟩
   ·obtain rfl:k=n:=dA
    go_wp2_with fail;go_ret;exact⟨WC (by rw[Zp z.out u.out];simp;omega),g⟩
end P3
namespace P4
open Go.RowKit Kd
variable{B p R:Nat}{n:Int}{v:Value}{l:List (Sl Nat)}
theorem XQ{t:Int}{k:Nat}{b:Bool}(w:World)(hk:JF l t=k)(hb:uE l t=b)(h:YB w B p R n v l):
 jA 76 #[lA p,aA t] w fun e w'=>e= .returned (.tuple #[aA k,.bool b])/\fA w w':=by
 subst hk;subst hb;exact qi t w h
theorem OX:∀(l:List (Sl Nat)) (k:Nat) (t:Int) (x:Nat),kF l k t=true->iG.cells (l.set k ⟨t,x⟩)=(iG.cells l).set (k*2+1) (lA x)
 |[],k,t,x,h=>by simp[kF] at h
 |s:: r,0,t,x,h=>by
  have:s.id=t:=(by simpa[kF] using h);subst this;rfl
 |s:: r,k+1,t,x,h=>by
  have:=OX r k t x (by simpa[kF] using h);rw[show(k+1)*2+1=(k*2+1)+1+1 by omega,List.set_cons_succ];simp only[Kind.cells,List.flatMap_cons] at this|-;rw[this];rfl
theorem bP(t:Int)(w:World)(ht:uE l t=false)(h:YB w B p R n v l):
 jA 40 #[lA p,aA t] w fun e w'=>e= .returned (.tuple #[(.pointer none),.bool false])/\fA w w':=by
 have b:=Zh ht;have H:=Zh h;clear ht h;go_enter func40,ntmps40;go_wp2_with fail;refine(XQ w rfl b H).mono ?_;rintro e d ⟨rfl,a⟩;have c:=Zh a;clear a;go_wp2_with fail;go_ret2;exact⟨rfl,c⟩
theorem DI(t:Int)(k:Nat){x:Nat}(w:World)(hk:k<l.length)(ht:l[k].id=t)(hx:l[k].x=x)(h:YB w B p R n v l):
 jA 40 #[lA p,aA t] w fun e w'=>e= .returned (.tuple #[(lA x),.bool true])/\fA w w':=by
 subst hx;have g:Hid (JF l t=k):=(by subst ht;exact qR h.xD hk);have i:Hid (uE l t=true):=(by subst ht;exact RU h.xD hk);obtain⟨A,m,c,rfl,j,q,d,r,f⟩:=h.own.slice;have H:=Zh h;have s:=Zh f;have u:k<m:=dA;have y:m<=200:=(by have:=h.len;have:=h.room;omega);clear ht h f r j d;go_enter func40,ntmps40;go_wp2_with fail;refine(XQ w g i H).mono ?_;rintro e D ⟨rfl,a⟩;have z:=Zh a;have C:=(H.below a Zl).c2;obtain⟨b,o,rfl,E,F,G⟩:=TS (s.on a) hk;clear a;go_wp2_with fail;go_ret2;exact⟨rfl,z⟩
def px(w:World)(B p R:Nat)(n:Int)(v:Value)(l:List (Sl Nat))(t:Int)(x:Nat)(e:Ending)(w':World):Prop:=
 e= .returned (.bool true)/\YB w' B p R n v (l.set (JF l t) ⟨t,x⟩)/\iA (cE p v) w w'
theorem Kl(t:Int)(x:Nat)(w:World)(ht:uE l t=true)(h:YB w B p R n v l):
 jA 72 #[lA p,aA t,(lA x)] w (px w B p R n v l t x):=by
 have q:=Zh ht;have r:JF l t<l.length:=VR ht;obtain⟨k,a⟩:∃k,k=JF l t:=⟨_,rfl⟩;rw[<-a] at r;have z:=Zh a.symm;rcases h.own.form with⟨_,rfl⟩|⟨g,c,cur,rfl,hv,hBg,hlt,hh,qD,UC,hcs,hta⟩
 ·simp at r
 obtain⟨m,s⟩:=DA l.length;rw[s] at r qD h|-;have H:=Zh h;have C:=Zh s;have D:=Zh hh;have d:cur.size=c*2:=hcs;have f:k*2+1<cur.size:=dA;have A:=Zh f;have E:m<=200:=(by have:=h.len;have:=h.room;omega);clear ht h UC hcs d hta s hh a f hv;go_enter func72,ntmps72;go_wp2_with fail;refine(XQ w z q H).mono ?_;rintro e i ⟨rfl,j⟩;have F:=Zh j;have o:=Zh (H.below j Zl);have I:=o.c2;have b:=Zh ((j.block g hlt).trans D);obtain⟨J,K⟩:∃u,i.cell? ⟨g,k*2+1,none⟩=some u:=⟨cur[k*2+1]'A.out,by rw[cell_of_row i g _ _ _ (0,0) b.out];exact Array.getElem?_eq_getElem A⟩;have L:i.frozen? ⟨g,k*2+1,none⟩=false:=(by have G:=b.out;simp[World.frozen?,G]);clear j;go_wp2_with fail;go_ret;have y:p≠g:=fun e=>WA o.zA b pA e
 refine⟨rfl,⟨(Below.heap_setCell _ _ _ _ y).trans o.zA,?_,H.base,iq H.xD q x,H.pos,by rw[List.length_set];exact H.len,H.room⟩,?_⟩
 ·exact Kind.Own.Ld o.own C FA (by rw[OX l _ t x q.out,z.out])
 ·exact iA.setCell (iA.oB F _) (fun _=> .inr rfl) _
def Pv(w:World)(B p R:Nat)(n:Int)(v:Value)(l:List (Sl Nat))(t:Int)(e:Ending)(w':World):Prop:=
 e= .returned (.bool true)/\∃v',YB w' B p R n v' (l.eraseIdx (JF l t))/\iA (cE p v) w w'/\v'.ownBlock=v.ownBlock
theorem yi(t:Int)(w:World)(ht:uE l t=true)(h:YB w B p R n v l):
 jA 247 #[lA p,aA t] w (Pv w B p R n v l t):=by
 have z:=Zh ht;have m:JF l t<l.length:=VR ht;obtain⟨k,b⟩:∃k,k=JF l t:=⟨_,rfl⟩;rw[<-b] at m;have u:=Zh b.symm;rcases h.own.form with⟨_,rfl⟩|⟨g,c,cur,rfl,_⟩
 ·simp at m
 obtain⟨r,o⟩:∃r,l.length=k+1+r:=⟨l.length-(k+1),by omega⟩;rw[o] at h|-;have H:=Zh h;have A:=Zh o;have C:k+1+r<=200:=(by have:=h.len;have:=h.room;omega);clear ht h o b m;go_enter func247,ntmps247;go_wp2_with fail;refine(XQ w u z H).mono ?_;rintro e D ⟨rfl,q⟩;have E:=Zh q;have d:=Zh (H.below q Zl);have F:=d.c2;clear q;go_wp2_with fail;refine(nf g k r c D A dA d.own).mono ?_;rintro e j ⟨rfl,x,s⟩;have f:Hid (¬p=g):=Zh fun e=>d.apart (by rw[e];rfl)
 have G:=Zh s;have I:=Zh x;have a:=Zh ((s.block p d.lt f).trans d.zA);have L:=iB 2 a;have M:j.frozen? (cA p 2)=false:=(by have J:=a.out;simp[World.frozen?,J]);clear s x F;go_wp2_with fail;go_ret;refine⟨rfl,_,⟨heap_set a 2 _,?_,H.base,zl H.xD _,H.pos,?_,H.room⟩,?_,rfl⟩
 ·rw[u.out];exact I.VB fun N y=>Below.heap_setCell _ _ _ _ (by simp only[Value.ownBlock,Option.some.injEq] at y;subst y;exact fun e=>f e.symm)
 ·have:=H.len;have:=List.length_eraseIdx_le l (JF l t);omega
 ·exact iA.setCell (iA.trans (iA.oB E (cE p _)) G (fun i _ K=> .inr (by subst K;rfl))) (fun _=> .inl rfl) _
end P4
namespace P5
def it(P:Int->Int):Nat->Int->Int
 |0,y=>y
 |k+1,y=>it P k (P y)
theorem OF(P:Int->Int):∀(k:Nat) (y:Int),it P (k+1) y=P (it P k y)
 |0,_=>rfl
 |k+1,y=>OF P k (P y)
theorem gM(P:Int->Int):∀(j k:Nat) (y:Int),it P (j+k) y=it P k (it P j y)
 |0,k,y=>by rw[Nat.zero_add];rfl
 |j+1,k,y=>by rw[show j+1+k=(j+k)+1 by omega];exact gM P j k (P y)
structure Tr(H:Int->Prop)(P:Int->Int)(K:Int->List Int):Prop where
 z:¬H 0
 p0:∀y,¬H y->P y=0
 aB:∀x c,c∈K x->H x/\H c/\P c=x
 par:∀y,P y≠0->y∈K (P y)
 AD:∀x,(K x).Nodup
 JM:∀y,∃k,it P k y=0
theorem eI:∀(xs L:List Int),xs.Nodup->(∀x∈xs,x∈L)->xs.length<=L.length
 |[],_,_,_=>by simp
 |x:: r,L,hn,hs=>by
  have hx:x∈L:=hs x FA;obtain⟨h1,h2⟩:=List.nodup_cons.1 hn;have:=eI r (L.erase x) h2 (fun y hy=>(List.mem_erase_of_ne (by rintro rfl;exact h1 hy)).2 (hs y (by simp[hy])));rw[List.length_erase_of_mem hx] at this;have hp:0<L.length:=List.length_pos_of_mem hx;simp only[List.length_cons];omega
section
variable{H:Int->Prop}{P:Int->Int}{K:Int->List Int}
theorem Tr.zero(h:Tr H P K):P 0=0:=h.p0 0 h.z
theorem Tr.US(h:Tr H P K):∀k,it P k 0=0
 |0=>rfl
 |k+1=>by show it P k (P 0)=0;rw[h.zero];exact h.US k
theorem Tr.IP(h:Tr H P K){k j:Nat}{y:Int}(hk:it P k y=0)(hj:k<=j):it P j y=0:=by
 obtain⟨d,rfl⟩:=Nat.exists_eq_add_of_le hj;rw[gM,hk,h.US]
theorem Tr.jG(h:Tr H P K){y:Int}(hy:H y):y≠0:=fun e=>h.z (e▸hy)
theorem Tr.rI(h:Tr H P K){y:Int}(hy:P y≠0):H (P y):=(h.aB _ _ (h.par y hy)).1
theorem Tr.Md(h:Tr H P K){y:Int}(hy:P y≠0):H y:=(h.aB _ _ (h.par y hy)).2.1
theorem Tr.k0(h:Tr H P K){x:Int}(hx:¬H x):K x=[]:=by
 cases e:K x with
 |nil=>rfl
 |cons c r=>exact absurd (h.aB x c (by rw[e];simp)).1 hx
theorem Tr.pW(h:Tr H P K){y:Int}(hy:H y):∀i,it P i y≠0->H (it P i y)
 |0,_=>hy
 |i+1,hi=>by rw[OF] at hi|-;exact h.rI hi
def kH(P:Int->Int)(y:Int)(k:Nat):Prop:=it P k y=0/\∀i,i<k->it P i y≠0
theorem sP(P:Int->Int):∀(k:Nat) (y:Int),it P k y=0->∃j,j<=k/\kH P y j
 |0,y,h=>⟨0,Zl,h,fun i hi=>absurd hi dA⟩
 |k+1,y,h=>by
  by_cases hy:y=0
  ·exact⟨0,by omega,hy,fun i hi=>absurd hi dA⟩
  ·obtain⟨j,hj,h1,h2⟩:=sP P k (P y) h;refine⟨j+1,by omega,h1,fun i hi=>?_⟩;cases i with
   |zero=>exact hy
   |succ i=>exact h2 i dA
theorem Tr.dep(h:Tr H P K)(y:Int):∃k,kH P y k:=by
 obtain⟨k,a⟩:=h.JM y;obtain⟨j,_,b⟩:=sP P k y a;exact⟨j,b⟩
theorem Tr.mq(h:Tr H P K){y:Int}{k:Nat}(hd:kH P y k){i j:Nat}(hij:i<j)(hj:j<k):it P i y≠it P j y:=by
 intro e;have a:it P (i+(k-j)) y=it P (j+(k-j)) y:=(by rw[gM,gM,e]);rw[show j+(k-j)=k by omega,hd.1] at a;exact hd.2 _ dA a
theorem Tr.XR(h:Tr H P K){L:List Int}(hL:∀y,H y->y∈L){y:Int}(hy:H y){k:Nat}(hd:kH P y k):k<=L.length:=by
 have:=eI ((List.range k).map fun i=>it P i y) L ?_ ?_
 ·simpa using this
 ·rw[List.Nodup,List.pairwise_map];refine List.Pairwise.imp_of_mem ?_ List.pairwise_lt_range;intro i j b c a;exact h.mq hd a (List.mem_range.1 c)
 ·intro x hx;obtain⟨i,b,rfl⟩:=List.mem_map.1 hx;exact hL _ (h.pW hy i (hd.2 i (List.mem_range.1 b)))
theorem kH.aB{c y:Int}{k:Nat}(hc:c≠0)(hp:P c=y)(hd:kH P y k):kH P c (k+1):=by
 subst hp;refine⟨hd.1,fun i a=>?_⟩;cases i with
 |zero=>exact hc
 |succ i=>exact hd.2 i dA
def xF{α:Type}(F:Int->α)(i:Int)(v:α)(y:Int):α:=if y=i then v else F y
theorem MG{α:Type}(F:Int->α)(i:Int)(v:α):xF F i v i=v:=by simp[xF]
theorem pE{α:Type}(F:Int->α){i y:Int}(v:α)(h:y≠i):xF F i v y=F y:=by simp[xF,h]
theorem rV(P Q:Int->Int)(i:Int)(hi:∃k,it Q k i=0)(hQ:∀y,y≠i->Q y=P y):∀(k:Nat) (y:Int),it P k y=0->∃j,it Q j y=0
 |0,y,h=>⟨0,h⟩
 |k+1,y,h=>by
  by_cases e:y=i
  ·subst e;exact hi
  ·obtain⟨j,hj⟩:=rV P Q i hi hQ k (P y) h;exact⟨j+1,by show it Q j (Q y)=0;rw[hQ y e];exact hj⟩
theorem Tr.leave(h:Tr H P K)(i:Int):Tr H (xF P i 0) (xF K (P i) ((K (P i)).filter fun c=>decide (c≠i))):=by
 have key:∀x c,c∈xF K (P i) ((K (P i)).filter fun c=>decide (c≠i)) x↔c∈K x/\c≠i:=by
  intro x c;by_cases e:x=P i
  ·subst e;rw[MG];simp
  ·rw[pE _ _ e];refine⟨fun f=>⟨f,?_⟩,fun f=>f.1⟩;rintro rfl;exact e (h.aB _ _ f).2.2.symm
 refine⟨h.z,fun y g=>?_,fun x c f=>?_,fun y g=>?_,fun x=>?_,fun y=>?_⟩
 ·by_cases e:y=i
  ·subst e;rw[MG]
  ·rw[pE _ _ e];exact h.p0 y g
 ·obtain⟨j,l⟩:=(key x c).1 f;obtain⟨a,b,d⟩:=h.aB x c j;exact⟨a,b,by rw[pE _ _ l];exact d⟩
 ·by_cases e:y=i
  ·subst e;rw[MG] at g;exact absurd rfl g
  ·rw[pE _ _ e] at g|-;exact(key _ _).2 ⟨h.par y g,e⟩
 ·by_cases e:x=P i
  ·subst e;rw[MG];exact(h.AD _).filter _
  ·rw[pE _ _ e];exact h.AD x
 ·obtain⟨k,m⟩:=h.JM y;refine rV P _ i ⟨1,?_⟩ (fun z n=>pE _ _ n) k y m;show xF P i 0 i=0;exact MG _ _ _
theorem Tr.qx(h:Tr H P K){i p:Int}(hi:H i)(hp:H p)(h0:P i=0)(hno:∀j,it P j p≠i){L:List Int}(hL:∀c,c∈L↔c=i\/c∈K p)(hn:L.Nodup):Tr H (xF P i p) (xF K p L):=by
 have m:=h.jG hp;refine⟨h.z,fun y g=>?_,fun x c f=>?_,fun y g=>?_,fun x=>?_,fun y=>?_⟩
 ·by_cases e:y=i
  ·subst e;exact absurd hi g
  ·rw[pE _ _ e];exact h.p0 y g
 ·by_cases e:x=p
  ·subst e;rw[MG] at f;rcases(hL c).1 f with rfl|f
   ·exact⟨hp,hi,MG _ _ _⟩
   ·obtain⟨a,b,d⟩:=h.aB x c f;exact⟨a,b,by rw[pE _ _ (by rintro rfl;exact m (d.symm.trans h0))];exact d⟩
  ·rw[pE _ _ e] at f;obtain⟨a,b,d⟩:=h.aB x c f;exact⟨a,b,by rw[pE _ _ (by rintro rfl;rw[h0] at d;subst d;exact h.z a)];exact d⟩
 ·by_cases e:y=i
  ·subst e;rw[MG,MG];exact(hL y).2 (.inl rfl)
  ·rw[pE _ _ e] at g|-;have:=h.par y g;by_cases n:P y=p
   ·rw[n,MG];exact(hL y).2 (.inr (n▸this))
   ·rw[pE _ _ n];exact this
 ·by_cases e:x=p
  ·subst e;rw[MG];exact hn
  ·rw[pE _ _ e];exact h.AD x
 ·have l:∀j,it (xF P i p) j p=it P j p:=by
   intro j
   induction j with
   |zero=>rfl
   |succ j ih=>rw[OF,OF,ih,pE _ _ (hno j)]
  obtain⟨q,o⟩:=h.JM p;obtain⟨k,r⟩:=h.JM y;refine rV P _ i ⟨q+1,?_⟩ (fun z s=>pE _ _ s) k y r;show it (xF P i p) q (xF P i p i)=0;rw[MG,l];exact o
theorem Tr.go(h:Tr H P K){i:Int}(S:Int->Prop)(h0:P i=0)(hk:∀x c,S x->c∈K x->S c)(hp:∀c,S c->c≠i->S (P c))
 {P':Int->Int} {K':Int->List Int} (hP1:∀y,S y->P' y=0) (hP2:∀y,¬S y->P' y=P y) (hK1:∀y,S y->K' y=[]) (hK2:∀y,¬S y->K' y=K y):Tr (fun y=>H y/\¬S y) P' K':=by
 have f:∀y,S y\/¬S y:=fun y=>Classical.em _
 refine⟨fun q=>h.z q.1,fun y g=>?_,fun x c m=>?_,fun y g=>?_,fun x=>?_,fun y=>?_⟩
 ·rcases f y with e|e
  ·exact hP1 y e
  ·rw[hP2 y e];exact h.p0 y (fun r=>g ⟨r,e⟩)
 ·rcases f x with e|e
  ·rw[hK1 x e] at m;simp at m
  ·rw[hK2 x e] at m;obtain⟨a,b,d⟩:=h.aB x c m;have l:¬S c:=by
    intro l;by_cases o:c=i
    ·subst o;rw[h0] at d;subst d;exact h.z a
    ·exact e (d▸hp c l o)
   exact⟨⟨a,e⟩,⟨b,l⟩,by rw[hP2 c l];exact d⟩
 ·rcases f y with e|e
  ·exact absurd (hP1 y e) g
  ·rw[hP2 y e] at g|-;have p:=h.par y g;have:¬S (P y):=fun l=>e (hk _ _ l p)
   rw[hK2 _ this];exact p
 ·rcases f x with e|e
  ·rw[hK1 x e];exact List.nodup_nil
  ·rw[hK2 x e];exact h.AD x
 ·have:∀(k:Nat) (y:Int),it P k y=0->∃j,it P' j y=0:=by
   intro k
   induction k with
   |zero=>exact fun y g=>⟨0,g⟩
   |succ k ih=>
    intro y g;rcases f y with e|e
    ·exact⟨1,hP1 y e⟩
    ·obtain⟨j,s⟩:=ih (P y) g;exact⟨j+1,by show it P' j (P' y)=0;rw[hP2 y e];exact s⟩
  obtain⟨k,n⟩:=h.JM y;exact this k y n
def sub(K:Int->List Int):Nat->Int->List Int
 |0,_=>[]
 |f+1,x=>x:: (K x).flatMap (sub K f)
def Hb(K:Int->List Int):Nat->Int->Prop
 |0,_=>False
 |f+1,x=>∀c∈K x,Hb K f c
theorem sub_self{f:Nat}{x:Int}(h:Hb K f x):x∈sub K f x:=by
 cases f with
 |zero=>exact h.elim
 |succ f=>simp[sub]
theorem SU:∀(f:Nat) (x y c:Int),Hb K f x->y∈sub K f x->c∈K y->c∈sub K f x
 |0,_,_,_,h,_,_=>h.elim
 |f+1,x,y,c,h,hy,hc=>by
  simp only[sub,List.mem_cons,List.mem_flatMap] at hy|-;rcases hy with rfl|⟨d,hd,hy⟩
  ·exact .inr ⟨c,hc,sub_self (h c hc)⟩
  ·exact .inr ⟨d,hd,SU f d y c (h d hd) hy hc⟩
theorem Tr.TU(h:Tr H P K):∀(f:Nat) (x y:Int),Hb K f x->y∈sub K f x->y≠x->P y∈sub K f x
 |0,_,_,hb,_,_=>hb.elim
 |f+1,x,y,hb,hy,hne=>by
  simp only[sub,List.mem_cons,List.mem_flatMap] at hy|-;rcases hy with rfl|⟨d,hd,hy⟩
  ·exact absurd rfl hne
  ·by_cases e:y=d
   ·subst e;exact .inl (h.aB _ _ hd).2.2
   ·exact .inr ⟨d,hd,h.TU f d y (hb d hd) hy e⟩
theorem Tr.iM(h:Tr H P K):∀(f:Nat) (x y:Int),y∈sub K f x->∃j,it P j y=x
 |0,_,_,hy=>by simp[sub] at hy
 |f+1,x,y,hy=>by
  simp only[sub,List.mem_cons,List.mem_flatMap] at hy;rcases hy with rfl|⟨d,hd,hy⟩
  ·exact⟨0,rfl⟩
  ·obtain⟨j,hj⟩:=h.iM f d y hy;exact⟨j+1,by rw[OF,hj];exact(h.aB _ _ hd).2.2⟩
theorem Tr.ZJ(h:Tr H P K):∀(f:Nat) (x y:Int),H x->y∈sub K f x->H y
 |0,_,_,_,hy=>by simp[sub] at hy
 |f+1,x,y,hx,hy=>by
  simp only[sub,List.mem_cons,List.mem_flatMap] at hy;rcases hy with rfl|⟨d,hd,hy⟩
  ·exact hx
  ·exact h.ZJ f d y (h.aB _ _ hd).2.1 hy
theorem Tr.IL(h:Tr H P K){x:Int}(hx:x≠0){j:Nat}(hj:it P (j+1) x=x):False:=by
 have:∀m,it P (m*(j+1)) x=x:=by
  intro m
  induction m with
  |zero=>rw[Nat.zero_mul];rfl
  |succ m ih=>rw[Nat.succ_mul,gM,ih,hj]
 obtain⟨k,b⟩:=h.JM x;have a:=h.IP (j:=k*(j+1)) b (Nat.le_mul_of_pos_right _ dA);rw[this] at a;exact hx a
theorem Tr.FQ(h:Tr H P K){x c d e:Int}{i j:Nat}(hc:c∈K x)(hd:d∈K x)(hi:it P i e=c)(hj:it P j e=d)(hij:i<j):False:=by
 obtain⟨m,rfl⟩:∃m,j=i+(m+1):=⟨j-i-1,by omega⟩;rw[gM,hi] at hj;obtain⟨hx,g,a⟩:=h.aB _ _ hc;obtain⟨_,_,b⟩:=h.aB _ _ hd;have k:it P (m+1) x=x:=by
  have:it P (m+1+1) c=x:=(by rw[OF,hj,b]);have f:it P (1+(m+1)) c=x:=(by rw[Nat.add_comm];exact this);rw[gM] at f;have l:it P 1 c=x:=a;rwa[l] at f
 exact h.IL (h.jG hx) k
theorem Tr.vL(h:Tr H P K):∀(f:Nat) (x:Int),H x->(sub K f x).Nodup
 |0,_,_=>List.nodup_nil
 |f+1,x,hx=>by
  rw[sub,List.nodup_cons];refine⟨fun hm=>?_,?_⟩
  ·obtain⟨c,hc,hm⟩:=List.mem_flatMap.1 hm;obtain⟨j,hj⟩:=h.iM f c x hm;exact h.IL (h.jG hx) (j:=j) (by rw[OF,hj];exact(h.aB _ _ hc).2.2)
  ·have:∀L:List Int,(∀c∈L,c∈K x)->L.Nodup->(L.flatMap (sub K f)).Nodup:=by
    intro L
    induction L with
    |nil=>intro _ _;exact List.nodup_nil
    |cons c r ih=>
     intro hL hn;obtain⟨h1,h2⟩:=List.nodup_cons.1 hn;rw[List.flatMap_cons,List.nodup_append];refine⟨h.vL f c (h.aB _ _ (hL c FA)).2.1,ih (fun d hd=>hL d (by simp[hd])) h2,fun a ha b hb=>?_⟩;rintro rfl;obtain⟨d,hd,hb⟩:=List.mem_flatMap.1 hb;obtain⟨i,hi⟩:=h.iM f c a ha;obtain⟨j,hj⟩:=h.iM f d a hb;rcases Nat.lt_trichotomy i j with hl|hl|hl
     ·exact h.FQ (hL c FA) (hL d (by simp[hd])) hi hj hl
     ·subst hl;rw[hi] at hj;subst hj;exact h1 hd
     ·exact h.FQ (hL d (by simp[hd])) (hL c FA) hj hi hl
   exact this _ (fun c hc=>hc) (h.AD x)
theorem Tr.hb(h:Tr H P K){L:List Int}(hL:∀y,H y->y∈L):∀(f:Nat) (y:Int) (k:Nat),H y->kH P y k->L.length<f+k->Hb K f y
 |0,y,k,hy,hd,hf=>by have:=h.XR hL hy hd;omega
 |f+1,y,k,hy,hd,hf=>fun c hc=>by
  obtain⟨_,hcH,hcp⟩:=h.aB _ _ hc;exact h.hb hL f c (k+1) hcH (hd.aB (h.jG hcH) hcp) dA
theorem Tr.JK(h:Tr H P K){L:List Int}(hL:∀y,H y->y∈L){y:Int}(hy:H y):Hb K (L.length+1) y:=by
 obtain⟨k,a⟩:=h.dep y;exact h.hb hL _ y k hy a dA
def up(H:Int->Bool)(P:Int->Int):Nat->Int->List Int
 |0,_=>[]
 |f+1,x=>if H x=true then x:: up H P f (P x) else[]
end
section
variable{H:Int->Bool}{P:Int->Int}{K:Int->List Int}
theorem ZN:∀(f:Nat) (a b:Int),b∈up H P f a->∃j,it P j a=b/\H b=true
 |0,_,_,h=>by simp[up] at h
 |f+1,a,b,h=>by
  rw[up] at h;split at h
  ·rename_i ha;rcases List.mem_cons.1 h with rfl|h
   ·exact⟨0,rfl,ha⟩
   ·obtain⟨j,hj,hb⟩:=ZN f (P a) b h;exact⟨j+1,hj,hb⟩
  ·simp at h
theorem Tr.bW(h:Tr (fun y=>H y=true) P K):∀(f:Nat) (a:Int) (k j:Nat),H a=true->kH P a k->j<k->j<f->it P j a∈up H P f a
 |0,_,_,_,_,_,_,hf=>absurd hf dA
 |f+1,a,k,j,ha,hd,hj,hf=>by
  rw[up,if_pos ha];cases j with
  |zero=>exact List.mem_cons.2 (.inl rfl)
  |succ j=>
   have hp:P a≠0:=hd.2 1 dA;cases k with
   |zero=>omega
   |succ k=>
    exact List.mem_cons.2 (.inr (h.bW f (P a) k j (h.rI hp) ⟨hd.1,fun i hi=>hd.2 (i+1) dA⟩ dA dA))
theorem Tr.mc(h:Tr (fun y=>H y=true) P K){L:List Int}(hL:∀y,H y=true->y∈L){a b:Int}(ha:H a=true)(hb:H b=true)(hn:b∉up H P (L.length+1) a)(j:Nat):it P j a≠b:=by
 intro e;obtain⟨k,c⟩:=h.dep a;have d:=h.XR hL ha c;by_cases f:j<k
 ·exact hn (e▸h.bW _ a k j ha c f dA)
 ·have:=h.IP c.1 (by omega:k<=j);rw[this] at e;subst e;exact h.z hb
end
end P5
namespace P4
open Go.RowKit Kd
variable{B p R:Nat}{n:Int}{v:Value}{l:List (Sl Nat)}
theorem pf{A:vA}{m c:Nat}(w:World)(h:iG.Own w B (.slice A m c) l)(hl:l.length<=1000000):
 jA 112 #[.slice A m c] w fun e w'=>∃v',e= .returned v'/\iG.Own w' w.heap.size v' l/\fA w w':=by
 rcases h.form with⟨hv,rfl⟩|⟨g,c',cur,hv,_⟩
 ·injection hv with e1 e2 e3;subst e1;subst e2;subst e3;clear h;have n:=fun w'=>Lib.run_eql_slice_nil (P:=prog) w' 141 147 Option.none 0 0 0 0 underlying141
  go_enter func112,ntmps112;go_wp2;go_ret;exact⟨_,rfl,Kind.Own.nil _ _ _,Ze⟩
 ·injection hv with e1 e2 e3;subst e1;obtain⟨y,z,o,p,i,d,f,q,j⟩:=h.slice;injection p with e1' e2' e3';subst e2';subst e3';have r:=Zh i;have s:=Zh (e1'▸j);have t:m<=1000000:=dA;clear h i j f d q e2 e3 e1' hl;have n:=fun w'=>Lib.run_eql_slice_nil (P:=prog) w' 141 147 (some ⟨g,0,Option.none⟩) m c 0 0 underlying141
  go_enter func112,ntmps112;go_wp2_with (at_builtin;refine iG.QF rfl _ _ rfl (v:=.slice (some ⟨w.heap.size,0,Option.none⟩) 0 0) (l:=[]) (m:=l) (B:=w.heap.size) rfl (Kind.Own.made iG w _ Zl) rfl r KF (s.on (Zb _ _)) jB FA ?_;intro v' C b a u);go_ret;exact⟨_,rfl,b,(Zb _ _).grown a FA (fun k x=>by simp[Value.ownBlock] at x;omega)⟩
def ku(w:World)(R:Nat)(n:Int)(l:List (Sl Nat))(e:Ending)(w':World):Prop:=
 ∃(p:Nat) (v:Value),e= .returned (lA p)/\YB w' w.heap.size p R n v l/\fA w w'
theorem Cg(w:World)(h:YB w B p R n v l):jA 70 #[lA p] w (ku w R n l):=by
 obtain⟨A,k,c,rfl,J,u,x,K,L⟩:=h.own.slice;have F:=h.c0;have G:=h.c2;have i:=h.lt;have M:l.length<=1000000:=(by have:=h.len;have:=h.room;omega);have H:=Zh h;clear h J u x K L;go_enter func70,ntmps70;go_wp2_with fail;go_region_held3 (fun w'=>w'.cell? (cA p 0)=some (aA R)/\w'.cell? (cA p 2)=some (.slice A k c)) (go_keep)
  ((first|(go_at_call 112;refine(pf (B:=B) (l:=l) _ (by exact(H.out.drewN _).own) M).mono ?_;rintro e f ⟨U,rfl,y,s⟩;obtain⟨m,o,r,rfl,_,_,_,_,_⟩:=y.slice;have I:=Zh y;have t:=Zh s;have z:f.cell? (cA p 0)=some (aA R):=(s.cell (by exact i)).trans F;have C:f.cell? (cA p 2)=some (.slice A k c):=(s.cell (by exact i)).trans G;clear y s)|fail))
 go_wp2_with fail;have D:Hid (fA w (f.alloc (.cells #[aA R,aA 0,.slice m o r] 143))):=Zh (Below.alloc (a:=w) (by exact(Below.drew (Below.refl _ w)).trans t.out) (by exact t.out.size) _);have b:Hid ((f.alloc (.cells #[aA R,aA 0,.slice m o r] 143)).heap[f.heap.size]? = some (.cells #[aA R,aA 0,.slice m o r] 143 (0,0))):=Zh (heap_alloc_new f _);have j:Hid (iG.Own (f.alloc (.cells #[aA R,aA 0,.slice m o r] 143)) w.heap.size (.slice m o r) l):=Zh (I.out.alloc _);have E:w.heap.size<=f.heap.size:=t.out.size;generalize f.alloc (.cells #[aA R,aA 0,.slice m o r] 143)=W at D b j|-;generalize f.heap.size=q at b E|-;have N:W.cell? (cA p 1)=some (aA n):=(D.out.cell (by exact i)).trans H.out.c1;have O:W.cell? (cA q 1)=some (aA 0):=cell_of_row W q 1 _ _ (0,0) b.out;have P:W.frozen? (cA q 1)=false:=(by have Q:=b.out;simp[World.frozen?,Q]);clear F G z C I t;go_region_held3 (fun _=>True) (trivial)
  ((first
    |(go_at_call 75;refine(D0 p 1 n _ (by exact N)).mono ?_;rintro e w' ⟨rfl,rfl⟩)
    |(go_at_call 113;refine(ji q 1 n (aA 0) _ (by exact O) (by exact P)).mono ?_;rintro e w' ⟨rfl,rfl⟩)
    |fail))
 go_wp2_with fail;go_ret;refine⟨q,_,rfl,⟨heap_set (by exact b.out) 1 _,?_,E,H.out.xD,H.out.pos,H.out.len,H.out.room⟩,?_⟩
 ·exact j.out.VB fun g S=>Below.heap_setCell _ _ _ _ (by
   rintro rfl;obtain⟨d,T⟩:=j.out.ty S;exact WA T b.out (by decide) rfl)
 ·exact Below.setCell (OC D.out _) E _
end P4
namespace P5
structure Nd where
 id:Int
 par:Int
 tag:qA
 txt:qA
 key:qA
 attrs:List P3.At
 kids:List Int
 note:Int
structure D where
 l:List Nd
 n:Int
 R:Nat
 nB:Int
structure Rc where
 op:Int
 id:Int
 par:Int
 ZA:Int
 tag:qA
 txt:qA
 key:qA
 attrs:List P3.At
def find(l:List Nd)(y:Int):Option Nd:=l.find? fun x=>decide (x.id=y)
def nA(l:List Nd)(y:Int):Bool:=(find l y).isSome
def EA(l:List Nd)(y:Int):Int:=match find l y with
 |some x=>x.par
 |none=>0
def xA(l:List Nd)(y:Int):List Int:=match find l y with
 |some x=>x.kids
 |none=>[]
def mB(l:List Nd)(i:Int)(f:Nd->Nd):List Nd:=l.map fun x=>if x.id=i then f x else x
def MA(l:List Nd):List Int:=l.map (·.id)
theorem kG{l:List Nd}{y:Int}{x:Nd}(h:find l y=some x):x∈l/\x.id=y:=by
 unfold find at h;exact⟨List.mem_of_find?_eq_some h,by simpa using List.find?_some h⟩
theorem wN{l:List Nd}{y:Int}:nA l y=true↔∃x∈l,x.id=y:=by
 unfold nA find;rw[List.find?_isSome];simp
theorem lu{l:List Nd}{y:Int}:nA l y=false↔∀x∈l,x.id≠y:=by
 rw[<-Bool.not_eq_true,wN];exact⟨fun h x hx e=>h ⟨x,hx,e⟩,fun h ⟨x,hx,e⟩=>h x hx e⟩
theorem zE{l:List Nd}{y:Int}:nA l y=true↔y∈MA l:=by
 rw[wN];simp[MA]
def ZD(l:List Nd):Prop:=l.Pairwise fun a b=>a.id<b.id
theorem ZD.find:∀{l:List Nd},ZD l->∀{x:Nd},x∈l->P5.find l x.id=some x
 |[],_,_,hx=>absurd hx FA
 |a:: r,h,x,hx=>by
  obtain⟨h1,h2⟩:=List.pairwise_cons.1 h;unfold P5.find;rw[List.find?_cons];by_cases e:a.id=x.id
  ·rw[decide_eq_true e];rcases List.mem_cons.1 hx with rfl|hx
   ·rfl
   ·have:=h1 x hx;omega
  ·rw[decide_eq_false e];rcases List.mem_cons.1 hx with rfl|hx
   ·exact absurd rfl e
   ·exact ZD.find h2 hx
theorem ZD.inj{l:List Nd}(h:ZD l){i j:Nat}(hi:i<l.length)(hj:j<l.length)(e:l[i].id=l[j].id):i=j:=by
 have key:=List.pairwise_iff_getElem.1 h;rcases Nat.lt_trichotomy i j with hl|hl|hl
 ·have:=key i j hi hj hl;omega
 ·exact hl
 ·have:=key j i hj hi hl;omega
theorem bJ(l:List Nd)(i:Int)(f:Nd->Nd)(hf:∀x,(f x).id=x.id)(y:Int):find (mB l i f) y=(find l y).map fun x=>if x.id=i then f x else x:=by
 unfold find mB;rw[List.find?_map];congr 1;apply congrArg (fun p=>List.find? p l);funext x;simp only[Function.comp];split
 ·rw[hf]
 ·rfl
theorem cP(l:List Nd)(i:Int)(f:Nd->Nd)(hf:∀x,(f x).id=x.id):MA (mB l i f)=MA l:=by
 unfold MA mB;rw[List.map_map];apply List.map_congr_left;intro x _;simp only[Function.comp];split
 ·exact hf x
 ·rfl
theorem nq(l:List Nd)(i:Int)(f:Nd->Nd):(mB l i f).length=l.length:=by simp[mB]
theorem FK{l:List Nd}{i:Int}{f:Nd->Nd}{z:Nd}:z∈mB l i f↔∃x∈l,z=if x.id=i then f x else x:=by
 unfold mB;rw[List.mem_map];exact⟨fun⟨x,hx,e⟩=>⟨x,hx,e.symm⟩,fun⟨x,hx,e⟩=>⟨x,hx,e.symm⟩⟩
theorem wQ{l m:List Nd}(h:ZD l)(e:MA m=MA l):ZD m:=by
 have a:(MA l).Pairwise (· < ·):=(by unfold MA;rw[List.pairwise_map];exact h);rw[<-e] at a;unfold MA at a;rwa[List.pairwise_map] at a
theorem ZD.pq{l:List Nd}(h:ZD l){k:Nat}(hk:k<l.length)(f:Nd->Nd):l.set k (f l[k])=mB l l[k].id f:=by
 apply List.ext_getElem
 ·simp[mB]
 ·intro j a d;have b:j<l.length:=(by simpa using a);simp only[mB,List.getElem_map,List.getElem_set];by_cases e:k=j
  ·subst e;simp
  ·rw[if_neg e,if_neg (fun c=>e (h.inj hk b c.symm))]
theorem xN(l:List Nd)(i:Int)(f:Nd->Nd)(hf:∀x,(f x).id=x.id)(y:Int):nA (mB l i f) y=nA l y:=by
 unfold nA;rw[bJ l i f hf];simp
theorem dP{l:List Nd}{i:Int}{f:Nd->Nd}(hf:∀x,(f x).id=x.id){g:Nd->Int}(hg:∀x,(f x).par=g x)(y:Int):
 EA (mB l i f) y=match find l y with
  |some x=>if y=i then g x else x.par
  |none=>0:=by
 unfold EA;rw[bJ l i f hf];cases e:find l y with
 |none=>rfl
 |some x=>
  obtain⟨_,hx⟩:=kG e;subst hx;simp only[Option.map_some];split
  ·exact hg x
  ·rfl
theorem YQ{l:List Nd}{i:Int}{f:Nd->Nd}(hf:∀x,(f x).id=x.id){g:Nd->List Int}(hg:∀x,(f x).kids=g x)(y:Int):
 xA (mB l i f) y=match find l y with
  |some x=>if y=i then g x else x.kids
  |none=>[]:=by
 unfold xA;rw[bJ l i f hf];cases e:find l y with
 |none=>rfl
 |some x=>
  obtain⟨_,hx⟩:=kG e;subst hx;simp only[Option.map_some];split
  ·exact hg x
  ·rfl
theorem qf(l:List Nd)(q:Int->Bool)(y:Int):find (l.filter fun x=>q x.id) y=if q y=true then find l y else none:=by
 unfold find;rw[List.find?_filter];by_cases h:q y=true
 ·rw[if_pos h];apply congrArg (fun p=>List.find? p l);funext x;by_cases e:x.id=y
  ·subst e;simp[h]
  ·simp[e]
 ·rw[if_neg h,List.find?_eq_none];intro x _;by_cases e:x.id=y
  ·subst e;simp[h]
  ·simp[e]
theorem gN{l:List Nd}{x:Nd}(hx:nA l x.id=false)(y:Int):find (l++[x]) y=if y=x.id then some x else find l y:=by
 unfold find;rw[List.find?_append];by_cases e:y=x.id
 ·subst e;rw[if_pos rfl];have:List.find? (fun z=>decide (z.id=x.id)) l=none:=by
   have:=lu.1 hx;rw[List.find?_eq_none];simpa using this
  rw[this];simp
 ·rw[if_neg e];cases List.find? (fun z=>decide (z.id=y)) l with
  |some z=>rfl
  |none=>simp[Ne.symm e]
theorem sV{l:List Nd}{y:Int}{x:Nd}(h:find l y=some x):EA l y=x.par:=by unfold EA;rw[h]
theorem EI{l:List Nd}{y:Int}{x:Nd}(h:find l y=some x):xA l y=x.kids:=by unfold xA;rw[h]
theorem uK{l:List Nd}{y:Int}(h:nA l y=true):∃x,find l y=some x:=Option.isSome_iff_exists.1 h
theorem vK{l:List Nd}{y:Int}{x:Nd}(h:find l y=some x):nA l y=true:=by unfold nA;rw[h];rfl
def VD(p:Int)(x:Nd):Nd:={x with par:=p}
def YC(f:List Int->List Int)(x:Nd):Nd:={x with kids:=f x.kids}
def pH(a:List P3.At)(x:Nd):Nd:={x with attrs:=a}
def UJ(t:qA)(x:Nd):Nd:={x with txt:=t}
def JL(n:Int)(x:Nd):Nd:={x with note:=n}
def less(i:Int)(l:List Int):List Int:=l.filter fun c=>decide (c≠i)
def UA(l:List Nd)(i:Int):List Nd:=if EA l i=0 then l else mB (mB l (EA l i) (YC (less i))) i (VD 0)
def RG(i b:Int)(l:List Int):List Int:=if b=0 then l++[i] else l.flatMap fun c=>if c=b then[i,c] else[c]
def SA(l:List Nd)(i p b:Int):List Nd:=mB (mB (UA l i) p (YC (RG i b))) i (VD p)
def below(l:List Nd)(i:Int):List Int:=sub (xA l) (l.length+1) i
def VI(s:List Int)(l:List Nd):List Nd:=l.filter fun x=>!decide (x.id∈s)
def ED(l:List Nd)(i:Int):List Nd:=VI (below (UA l i) i) (UA l i)
def dH(l:List Nd)(a:Int):List Int:=up (nA l) (EA l) (l.length+1) a
def inside(l:List Nd)(a b:Int):Bool:=decide (b∈dH l a)
def xC(tag txt key:qA):Bool:=if tag.toList=[] then P1.yC txt.data.toList&&decide (key.toList=[]) else P1.JC tag.data.toList&&P1.yC key.data.toList&&decide (txt.toList=[])
def IB(i:Int)(tag txt key:qA):Nd:=⟨i,0,tag,txt,key,[],[],0⟩
def rE(d:D)(r:Rc):Int×D:=
 if r.id≠d.n+1\/xC r.tag r.txt r.key=false then(1,d)
 else if d.R<=d.l.length then(6,d)
 else(0,{d with l:=d.l++[IB r.id r.tag r.txt r.key],n:=d.n+1})
def RA(l:List Nd)(y:Int):qA:=match find l y with
 |some x=>x.tag
 |none=>⟨#[]⟩
def qC(t:qA):Bool:=decide (t.toList=[]) || P1.dC t.data.toList
def fE(l:List Nd)(i p b:Int):Int:=
 if nA l i=false\/nA l p=false\/b≠0/\nA l b=false then 2
 else if i=1 then 4
 else if qC (RA l p)=true then 3
 else if b≠0/\(EA l b≠p\/b=i) then 1
 else if inside l p i=true then 5
 else 0
def YD(d:D)(i p b:Int):Int×D:=if fE d.l i p b=0 then(0,{d with l:=SA d.l i p b}) else(fE d.l i p b,d)
def uF(d:D)(i:Int):Int×D:=
 if nA d.l i=false then(2,d)
 else if i=1 then(4,d)
 else(0,{d with l:=ED d.l i,nB:=if d.nB∈below (UA d.l i) i then 0 else d.nB})
def XD(d:D)(i:Int)(a:List P3.At):Int×D:=
 if nA d.l i=false then(2,d)
 else if(RA d.l i).toList=[] then(3,d)
 else if P3.kC a=false then(1,d)
 else(0,{d with l:=mB d.l i (pH a)})
def nF(d:D)(i:Int)(t:qA):Int×D:=
 if nA d.l i=false then(2,d)
 else if(RA d.l i).toList≠[] then(3,d)
 else if P1.yC t.data.toList=false then(1,d)
 else(0,{d with l:=mB d.l i (UJ t)})
def YA(d:D)(r:Rc):Int×D:=
 if r.op=1 then rE d r
 else if r.op=2 then YD d r.id r.par r.ZA
 else if r.op=3 then uF d r.id
 else if r.op=4 then XD d r.id r.attrs
 else if r.op=5 then nF d r.id r.txt
 else(1,d)
def gE(d:D)(i:Int):Int×D:=if i≠0/\nA d.l i=false then(2,d) else(0,{d with nB:=i})
def JE(d:D)(i:Int)(n:Int):Int×D:=if nA d.l i=false then(2,d) else(0,{d with l:=mB d.l i (JL n)})
def ZK(x:Nd):Prop:=(x.tag.toList=[]->x.key.toList=[])/\x.tag.size<=60/\x.key.size<=60
structure WF(d:D):Prop where
 xD:ZD d.l
 zJ:∀x∈d.l,1<=x.id/\x.id<=d.n
 n0:1<=d.n
 len:d.l.length<=d.R
 room:d.R<=200
 root:nA d.l 1=true
 pM:EA d.l 1=0
 tr:Tr (fun y=>nA d.l y=true) (EA d.l) (xA d.l)
 elem:∀x∈d.l,x.tag.toList=[]->x.kids=[]
 mC:∀x∈d.l,x.attrs.length<=8
 nB:d.nB=0\/nA d.l d.nB=true
 mO:∀x∈d.l,ZK x
 xM:∀x∈d.l,P3.kC x.attrs=true
theorem nc(l:List Nd)(i v y:Int):nA (mB l i (VD v)) y=nA l y:=xN l i (VD v) (fun _=>rfl) y
theorem YR(l:List Nd)(i:Int)(f:List Int->List Int)(y:Int):nA (mB l i (YC f)) y=nA l y:=xN l i (YC f) (fun _=>rfl) y
theorem oc(l:List Nd)(i v:Int):MA (mB l i (VD v))=MA l:=cP l i (VD v) (fun _=>rfl)
theorem qc(l:List Nd)(i:Int)(f:List Int->List Int):MA (mB l i (YC f))=MA l:=cP l i (YC f) (fun _=>rfl)
theorem P0{l:List Nd}{i v:Int}(hi:nA l i=true):EA (mB l i (VD v))=xF (EA l) i v:=by
 funext y;rw[dP (f:=VD v) (fun _=>rfl) (g:=fun _=>v) (fun _=>rfl)];unfold xF EA;by_cases e:y=i
 ·subst e;obtain⟨x,hx⟩:=uK hi;rw[hx]
 ·simp[e]
theorem yU{l:List Nd}{i v:Int}:xA (mB l i (VD v))=xA l:=by
 funext y;rw[YQ (f:=VD v) (fun _=>rfl) (g:=fun x=>x.kids) (fun _=>rfl)];unfold xA;cases find l y<;>simp
theorem Q0{l:List Nd}{i:Int}{f:List Int->List Int}:EA (mB l i (YC f))=EA l:=by
 funext y;rw[dP (f:=YC f) (fun _=>rfl) (g:=fun x=>x.par) (fun _=>rfl)];unfold EA;cases find l y<;>simp
theorem bU{l:List Nd}{i:Int}{f:List Int->List Int}(hi:nA l i=true):xA (mB l i (YC f))=xF (xA l) i (f (xA l i)):=by
 funext y;rw[YQ (f:=YC f) (fun _=>rfl) (g:=fun x=>f x.kids) (fun _=>rfl)];unfold xF xA;by_cases e:y=i
 ·subst e;obtain⟨x,hx⟩:=uK hi;rw[hx]
 ·simp[e]
theorem sR(l m:List Nd)(h:∀y,nA m y=nA l y):(fun y=>nA m y=true)=fun y=>nA l y=true:=by
 funext y;rw[h]
theorem xL(l:List Nd)(i:Int):MA (UA l i)=MA l:=by
 unfold UA;split
 ·rfl
 ·rw[oc,qc]
theorem qH(l:List Nd)(i y:Int):nA (UA l i) y=nA l y:=by
 unfold UA;split
 ·rfl
 ·rw[nc,YR]
section
variable{l:List Nd}{i:Int}
theorem zI(h:Tr (fun y=>nA l y=true) (EA l) (xA l)):EA (UA l i)=xF (EA l) i 0:=by
 unfold UA;by_cases e:EA l i=0
 ·rw[if_pos e];funext y;by_cases a:y=i
  ·subst a;rw[MG,e]
  ·rw[pE _ _ a]
 ·rw[if_neg e,P0 (by rw[YR];exact h.Md e),Q0]
theorem PX(h:Tr (fun y=>nA l y=true) (EA l) (xA l)):xA (UA l i)=xF (xA l) (EA l i) (less i (xA l (EA l i))):=by
 unfold UA;by_cases e:EA l i=0
 ·rw[if_pos e,e,h.k0 h.z];funext y;by_cases a:y=0
  ·subst a;rw[MG,h.k0 h.z];rfl
  ·rw[pE _ _ a]
 ·rw[if_neg e,yU,bU (h.rI e)]
theorem PJ(h:Tr (fun y=>nA l y=true) (EA l) (xA l)):Tr (fun y=>nA (UA l i) y=true) (EA (UA l i)) (xA (UA l i)):=by
 rw[sR _ _ (qH l i),zI h,PX h];exact h.leave i
end
theorem qq{i b c:Int}{l:List Int}(hb:b=0\/b∈l):c∈RG i b l↔c=i\/c∈l:=by
 unfold RG;by_cases e:b=0
 ·rw[if_pos e];simp[or_comm]
 ·rw[if_neg e];rw[List.mem_flatMap];constructor
  ·rintro⟨d,f,a⟩;split at a
   ·simp at a;rcases a with rfl|rfl
    ·exact .inl rfl
    ·exact .inr f
   ·simp at a;subst a;exact .inr f
  ·rintro(rfl|a)
   ·exact⟨b,hb.resolve_left e,by simp⟩
   ·exact⟨c,a,by split<;>simp⟩
theorem rq{i b:Int}:∀{l:List Int},l.Nodup->i∉l->(RG i b l).Nodup:=by
 intro l q g;unfold RG;by_cases e:b=0
 ·rw[if_pos e,List.nodup_append];exact⟨q,by simp,fun a t b s=>by simp at s;subst s;rintro rfl;exact g t⟩
 ·rw[if_neg e];clear e
  induction l with
  |nil=>simp
  |cons c r ih=>
   obtain⟨k,u⟩:=List.nodup_cons.1 q;simp only[List.mem_cons,not_or] at g;have j:=ih u g.2;rw[List.flatMap_cons];have m:∀z,z∈r.flatMap (fun c=>if c=b then[i,c] else[c])->z=i/\b∈r\/z∈r:=by
    intro z f;obtain⟨d,n,f⟩:=List.mem_flatMap.1 f;split at f
    ·rename_i hdb;simp at f;rcases f with rfl|rfl
     ·exact .inl ⟨rfl,hdb▸n⟩
     ·exact .inr n
    ·simp at f;subst f;exact .inr n
   split
   ·rename_i hcb;subst hcb;have o:c∉r.flatMap (fun d=>if d=c then[i,d] else[d]):=by
     intro f;rcases m c f with⟨e,_⟩|f
     ·exact g.1 e.symm
     ·exact k f
    have p:i∉r.flatMap (fun d=>if d=c then[i,d] else[d]):=by
     intro f;rcases m i f with⟨_,e⟩|f
     ·exact k e
     ·exact g.2 f
    show(i:: c:: _).Nodup;rw[List.nodup_cons,List.nodup_cons];exact⟨by simp only[List.mem_cons,not_or];exact⟨g.1,p⟩,o,j⟩
   ·show(c:: _).Nodup;rw[List.nodup_cons];refine⟨fun f=>?_,j⟩;rcases m c f with⟨e,_⟩|f
    ·exact g.1 e.symm
    ·exact k f
section
variable{l:List Nd}{i p b:Int}
structure SI(l:List Nd)(i p b:Int):Prop where
 hi:nA l i=true
 hp:nA l p=true
 hb:b=0\/nA l b=true/\EA l b=p/\b≠i
 hn:inside l p i=false
 h1:i≠1
 hk:qC (RA l p)=false
theorem SM(h:fE l i p b=0):SI l i p b:=by
 unfold fE at h;split at h
 ·omega
 ·rename_i c1;split at h
  ·omega
  ·rename_i c2;split at h
   ·omega
   ·rename_i c3;split at h
    ·omega
    ·rename_i c4;split at h
     ·omega
     ·rename_i c5;simp only[not_or,not_and,Bool.not_eq_false,Bool.not_eq_true] at c1 c3 c5;refine⟨c1.1,c1.2.1,?_,c5,c2,c3⟩;by_cases e:b=0
      ·exact .inl e
      ·refine .inr ⟨c1.2.2 e,?_⟩;simp only[not_and,not_or] at c4;obtain⟨a,c⟩:=c4 e;exact⟨by simpa using a,c⟩
theorem SI.ok(h:SI l i p b):fE l i p b=0:=by
 unfold fE;have c:=h.hb;have d:¬(nA l i=false\/nA l p=false\/b≠0/\nA l b=false):=by
  rw[h.hi,h.hp];simp only[Bool.true_eq_false,false_or,not_and,Bool.not_eq_false];intro a;exact(c.resolve_left a).1
 have f:¬(b≠0/\(EA l b≠p\/b=i)):=by
  rintro⟨a,e⟩;obtain⟨_,g,j⟩:=c.resolve_left a;rcases e with e|e
  ·exact e g
  ·exact j e
 rw[if_neg d,if_neg h.h1,h.hk,if_neg FA,if_neg f,h.hn,if_neg FA]
theorem UU(y:Int):nA (SA l i p b) y=nA l y:=by
 unfold SA;rw[nc,YR,qH]
theorem VU:MA (SA l i p b)=MA l:=by
 unfold SA;rw[oc,qc,xL]
theorem tR(h:Tr (fun y=>nA l y=true) (EA l) (xA l))(hi:nA l i=true):EA (SA l i p b)=xF (EA (UA l i)) i p:=by
 unfold SA;rw[P0 (by rw[YR,qH];exact hi),Q0]
theorem Ll(hp:nA l p=true):xA (SA l i p b)=xF (xA (UA l i)) p (RG i b (xA (UA l i) p)):=by
 unfold SA;rw[yU,bU (by rw[qH];exact hp)]
theorem cU(h:Tr (fun y=>nA l y=true) (EA l) (xA l))(hk:SI l i p b):b=0\/b∈xA (UA l i) p:=by
 rcases hk.hb with e|⟨h1,h2,h3⟩
 ·exact .inl e
 ·refine .inr ?_;have:=(PJ (i:=i) h).par b;rw[zI h,pE _ _ h3,h2] at this;exact this (h.jG hk.hp)
theorem mu(h:Tr (fun y=>nA l y=true) (EA l) (xA l))(hk:SI l i p b):Tr (fun y=>nA (SA l i p b) y=true) (EA (SA l i p b)) (xA (SA l i p b)):=by
 have a:=PJ (i:=i) h;have hcut:∀j,it (EA (UA l i)) j p≠i:=by
  have d:∀j,it (EA l) j p≠i:=fun j=>h.mc (L:=MA l) (fun y f=>zE.1 f) hk.hp hk.hi (by
   have:=hk.hn;unfold inside dH at this;simp only[decide_eq_false_iff_not] at this;simpa[MA] using this) j
  intro j;have:it (EA (UA l i)) j p=it (EA l) j p:=by
   induction j with
   |zero=>rfl
   |succ j ih=>rw[OF,OF,ih,zI h,pE _ _ (d j)]
  rw[this];exact d j
 have e:EA (UA l i) i=0:=(by rw[zI h,MG]);rw[sR l _ (fun y=>UU y),tR h hk.hi,Ll hk.hp];rw[sR l _ (qH l i)] at a;refine a.qx hk.hi hk.hp e hcut (fun c=>qq (cU h hk)) (rq (a.AD p) ?_);intro g;have:=(a.aB _ _ g).2.2;rw[e] at this;exact h.jG hk.hp this.symm
end
theorem BI(s:List Int)(l:List Nd)(y:Int):find (VI s l) y=if y∈s then none else find l y:=by
 unfold VI;rw[qf l (fun y=>!decide (y∈s))];by_cases e:y∈s<;>simp[e]
theorem fP(s:List Int)(l:List Nd)(y:Int):nA (VI s l) y=true↔nA l y=true/\y∉s:=by
 unfold nA;rw[BI];by_cases e:y∈s<;>simp[e]
theorem sq{l:List Nd}{i:Int}(h:Tr (fun y=>nA l y=true) (EA l) (xA l))(hi:nA l i=true):Tr (fun y=>nA (ED l i) y=true) (EA (ED l i)) (xA (ED l i)):=by
 have b:=PJ (i:=i) h;have j:EA (UA l i) i=0:=(by rw[zI h,MG]);have g:Hb (xA (UA l i)) ((UA l i).length+1) i:=by
  have:=b.JK (L:=MA (UA l i)) (fun y a=>zE.1 a) (y:=i) (by rw[qH];exact hi);simpa[MA] using this
 have e:(fun y=>nA (ED l i) y=true)=fun y=>nA (UA l i) y=true/\¬y∈below (UA l i) i:=by
  funext y;unfold ED;exact propext (fP _ _ _)
 rw[e];refine b.go (i:=i) (fun y=>y∈below (UA l i) i) j (fun x c hx d=>SU _ _ _ _ g hx d) (fun c d f=>b.TU _ _ _ g d f) ?_ ?_ ?_ ?_
 all_goals intro y a
 ·unfold ED EA;rw[BI,if_pos a]
 ·unfold ED EA;rw[BI,if_neg a]
 ·unfold ED xA;rw[BI,if_pos a]
 ·unfold ED xA;rw[BI,if_neg a]
theorem PO{l:List Nd}{i:Int}{f:Nd->Nd}(h:∀x∈l,x.tag.toList=[]->x.kids=[])(ht:∀x,(f x).tag=x.tag)(hf:∀x∈l,x.id=i->x.tag.toList=[]->x.kids=[]->(f x).kids=[]):
 ∀x∈mB l i f,x.tag.toList=[]->x.kids=[]:=by
 intro x hx a;obtain⟨z,b,rfl⟩:=FK.1 hx;by_cases e:z.id=i
 ·rw[if_pos e] at a|-;rw[ht] at a;exact hf z b e a (h z b a)
 ·rw[if_neg e] at a|-;exact h z b a
theorem gP{l:List Nd}{i:Int}{f:Nd->Nd}(h:∀x∈l,x.attrs.length<=8)(hf:∀x,x.attrs.length<=8->(f x).attrs.length<=8):∀x∈mB l i f,x.attrs.length<=8:=by
 intro x hx;obtain⟨z,a,rfl⟩:=FK.1 hx;split
 ·exact hf z (h z a)
 ·exact h z a
theorem iP{l:List Nd}{i:Int}{f:Nd->Nd}(h:∀x∈l,ZK x)(ht:∀x,(f x).tag=x.tag)(hk:∀x,(f x).key=x.key):∀x∈mB l i f,ZK x:=by
 intro x hx;obtain⟨z,a,rfl⟩:=FK.1 hx;split
 ·unfold ZK;rw[ht,hk];exact h z a
 ·exact h z a
theorem QO{l:List Nd}{i:Int}{f:Nd->Nd}(h:∀x∈l,P3.kC x.attrs=true)(hf:∀x,P3.kC x.attrs=true->P3.kC (f x).attrs=true):∀x∈mB l i f,P3.kC x.attrs=true:=by
 intro x hx;obtain⟨z,a,rfl⟩:=FK.1 hx;split
 ·exact hf z (h z a)
 ·exact h z a
theorem S0:P3.kC []=true:=P3.AI.2 ⟨by simp,fun a h=>absurd h FA,List.Pairwise.nil⟩
theorem WU{l m:List Nd}{n:Int}(h:∀x∈l,1<=x.id/\x.id<=n)(e:MA m=MA l):∀x∈m,1<=x.id/\x.id<=n:=by
 intro x hx;have:x.id∈MA m:=List.mem_map.2 ⟨x,hx,rfl⟩;rw[e] at this;obtain⟨z,a,b⟩:=List.mem_map.1 this;rw[<-b];exact h z a
theorem GK{l m:List Nd}(e:MA m=MA l):m.length=l.length:=by
 have:=congrArg List.length e;simpa[MA] using this
theorem QX{l m:List Nd}(e:MA m=MA l)(y:Int):nA m y=nA l y:=by
 rw[Bool.eq_iff_iff,zE,zE,e]
section
variable{d:D}
theorem WF.VJ(h:WF d):d.l.length<=200:=Nat.le_trans h.len h.room
theorem WF.SO(h:WF d){x:Nd}(hx:x∈d.l):x.kids.length<=200:=by
 have a:=EI (h.xD.find hx);have b:=h.tr.AD x.id;rw[a] at b;have:=eI x.kids (MA d.l) b (fun c e=>zE.1 (h.tr.aB x.id c (by rw[a];exact e)).2.1);have:=h.VJ;simp only[MA,List.length_map] at *;omega
theorem WF.tq(h:WF d){x:Nd}(hx:x∈d.l){c:Int}(hc:c∈x.kids):nA d.l c=true/\EA d.l c=x.id:=
 (h.tr.aB x.id c (by rw[EI (h.xD.find hx)];exact hc)).2
theorem WF.pos(h:WF d){y:Int}(hy:nA d.l y=true):1<=y/\y<=d.n:=by
 obtain⟨x,hx,rfl⟩:=wN.1 hy;exact h.zJ x hx
theorem WF.Vx(h:WF d):nA d.l 0=false:=by
 rw[<-Bool.not_eq_true];intro e;have:=(h.pos e).1;omega
theorem WF.next(h:WF d):nA d.l (d.n+1)=false:=by
 rw[<-Bool.not_eq_true];intro e;have:=(h.pos e).2;omega
theorem tV(h:WF d)(i:Int)(f:Nd->Nd)(h1:∀x,(f x).id=x.id)(h2:∀x,(f x).par=x.par)(h3:∀x,(f x).kids=x.kids)(h4:∀x,(f x).tag=x.tag)(h5:∀x,x.attrs.length<=8->(f x).attrs.length<=8)(h6:∀x,(f x).key=x.key)(h7:∀x,P3.kC x.attrs=true->P3.kC (f x).attrs=true):WF {d with l:=mB d.l i f}:=by
 have e:=cP d.l i f h1;have b:EA (mB d.l i f)=EA d.l:=by
  funext y;rw[dP h1 (g:=fun x=>x.par) h2];unfold EA;cases find d.l y<;>simp
 have c:xA (mB d.l i f)=xA d.l:=by
  funext y;rw[YQ h1 (g:=fun x=>x.kids) h3];unfold xA;cases find d.l y<;>simp
 have a:=QX e;refine⟨wQ h.xD e,WU h.zJ e,h.n0,by rw[GK e];exact h.len,h.room,?_,?_,?_,PO h.elem h4 (fun x _ _ _ hx=>(h3 x).trans hx),gP h.mC h5,?_,iP h.mO h4 h6,QO h.xM h7⟩
 ·show nA (mB d.l i f) 1=true;rw[a];exact h.root
 ·show EA (mB d.l i f) 1=0;rw[b];exact h.pM
 ·show Tr (fun y=>nA (mB d.l i f) y=true) (EA (mB d.l i f)) (xA (mB d.l i f));rw[sR _ _ a,b,c];exact h.tr
 ·show d.nB=0\/nA (mB d.l i f) d.nB=true;rw[a];exact h.nB
theorem TX{l:List Nd}(i:Int)(h:∀x∈l,x.tag.toList=[]->x.kids=[]):∀x∈UA l i,x.tag.toList=[]->x.kids=[]:=by
 unfold UA;split
 ·exact h
 ·exact PO (PO h (fun _=>rfl) (fun x _ _ _ hx=>by show less i x.kids=[];rw[hx];rfl)) (fun _=>rfl) (fun x _ _ _ hx=>hx)
theorem SY{l:List Nd}(i:Int)(h:∀x∈l,x.attrs.length<=8):∀x∈UA l i,x.attrs.length<=8:=by
 unfold UA;split
 ·exact h
 ·exact gP (gP h (fun _ h=>h)) (fun _ h=>h)
theorem TY{l:List Nd}(i:Int)(h:∀x∈l,ZK x):∀x∈UA l i,ZK x:=by
 unfold UA;split
 ·exact h
 ·exact iP (iP h (fun _=>rfl) (fun _=>rfl)) (fun _=>rfl) (fun _=>rfl)
theorem UX{l:List Nd}(i:Int)(h:∀x∈l,P3.kC x.attrs=true):∀x∈UA l i,P3.kC x.attrs=true:=by
 unfold UA;split
 ·exact h
 ·exact QO (QO h (fun _ h=>h)) (fun _ h=>h)
theorem zi{l:List Nd}{x:Nd}(i:Int)(hx:x∈UA l i):∃z∈l,z.id=x.id/\z.tag=x.tag:=by
 unfold UA at hx;split at hx
 ·exact⟨x,hx,rfl,rfl⟩
 ·obtain⟨z,a,rfl⟩:=FK.1 hx;obtain⟨u,b,rfl⟩:=FK.1 a;refine⟨u,b,?_,?_⟩
  ·split<;>split<;>rfl
  ·split<;>split<;>rfl
theorem nu(h:WF d){i p b:Int}(hk:SI d.l i p b):WF {d with l:=SA d.l i p b}:=by
 have e:MA (SA d.l i p b)=MA d.l:=VU;have k:=QX e;refine⟨wQ h.xD e,WU h.zJ e,h.n0,by rw[GK e];exact h.len,h.room,?_,?_,mu h.tr hk,?_,?_,?_,?_,?_⟩
 ·show nA (SA d.l i p b) 1=true;rw[k];exact h.root
 ·show EA (SA d.l i p b) 1=0;rw[tR h.tr hk.hi,pE _ _ (Ne.symm hk.h1),zI h.tr,pE _ _ (Ne.symm hk.h1)];exact h.pM
 ·show∀x∈SA d.l i p b,x.tag.toList=[]->x.kids=[];unfold SA;refine PO (PO (TX i h.elem) (fun _=>rfl) (fun x hx f m n=>?_)) (fun _=>rfl) (fun x _ _ _ hx=>hx);obtain⟨z,o,g,j⟩:=zi i hx;have a:=hk.hk;have c:=h.xD.find o;rw[g,f] at c;unfold qC RA at a;rw[c] at a;simp only[j,m] at a;simp at a
 ·show∀x∈SA d.l i p b,x.attrs.length<=8;unfold SA;exact gP (gP (SY i h.mC) (fun _ h=>h)) (fun _ h=>h)
 ·show d.nB=0\/nA (SA d.l i p b) d.nB=true;rw[k];exact h.nB
 ·show∀x∈SA d.l i p b,ZK x;unfold SA;exact iP (iP (TY i h.mO) (fun _=>rfl) (fun _=>rfl)) (fun _=>rfl) (fun _=>rfl)
 ·show∀x∈SA d.l i p b,P3.kC x.attrs=true;unfold SA;exact QO (QO (UX i h.xM) (fun _ h=>h)) (fun _ h=>h)
theorem Dg(h:WF d){i:Int}(hi:nA d.l i=true)(h1:i≠1):1∉below (UA d.l i) i:=by
 intro b;have a:=PJ (i:=i) h.tr;have c:Hb (xA (UA d.l i)) ((UA d.l i).length+1) i:=by
  have:=a.JK (L:=MA (UA d.l i)) (fun y e=>zE.1 e) (y:=i) (by rw[qH];exact hi);simpa[MA] using this
 have:=a.TU _ _ _ c b (Ne.symm h1);rw[zI h.tr,pE _ _ (Ne.symm h1),h.pM] at this;have f:=a.ZJ _ _ _ (by rw[qH];exact hi) this;exact a.z f
theorem vq(h:WF d){i:Int}(hi:nA d.l i=true)(h1:i≠1):WF {d with l:=ED d.l i,nB:=if d.nB∈below (UA d.l i) i then 0 else d.nB}:=by
 have e:MA (UA d.l i)=MA d.l:=xL d.l i;have a:(ED d.l i).Sublist (UA d.l i):=List.filter_sublist;have c:=Dg h hi h1;refine⟨(wQ h.xD e).sublist a,fun x hx=>WU h.zJ e x (a.subset hx),h.n0,?_,h.room,?_,?_,sq h.tr hi,fun x hx=>TX i h.elem x (a.subset hx),fun x hx=>SY i h.mC x (a.subset hx),?_,fun x hx=>TY i h.mO x (a.subset hx),fun x hx=>UX i h.xM x (a.subset hx)⟩
 ·have:=a.length_le;rw[GK e] at this;exact Nat.le_trans this h.len
 ·show nA (VI _ _) 1=true;rw[fP,qH];exact⟨h.root,c⟩
 ·show EA (VI _ _) 1=0;unfold EA;rw[BI,if_neg c];show EA (UA d.l i) 1=0;rw[zI h.tr,pE _ _ (Ne.symm h1)];exact h.pM
 ·by_cases b:d.nB∈below (UA d.l i) i
  ·exact .inl (if_pos b)
  ·rw[if_neg b];rcases h.nB with h0|h0
   ·exact .inl h0
   ·refine .inr ((fP _ _ _).2 ⟨?_,b⟩);rw[qH];exact h0
theorem wq{tag txt key:qA}(h:xC tag txt key≠false)(i:Int):ZK (IB i tag txt key):=by
 have g:∀b:qA,b.data.toList.length=b.size:=fun b=>rfl
 have n:∀{l:uA},P1.yC l=true->l.length<=60:=fun {l} h=>by
  unfold P1.yC at h;rw[Bool.and_eq_true] at h;simpa using h.1
 have o:∀{l:uA},P1.JC l=true->l.length<=60:=fun {l} h=>by
  cases l with
  |nil=>simp
  |cons c r=>
   have:=(P1.yT h).1;simp only[List.length_cons];omega
 have a:∀{b:qA},b.toList=[]->b.size=0:=fun {b} e=>by
  rw[ByteArray.toList_eq] at e;rw[<-g,e];rfl
 unfold xC at h;show(tag.toList=[]->key.toList=[])/\tag.size<=60/\key.size<=60;by_cases d:tag.toList=[]
 ·rw[if_pos d] at h;have j:key.toList=[]:=by
   cases hh:decide (key.toList=[]) with
   |false=>rw[hh] at h;simp at h
   |true=>simpa using hh
  exact⟨fun _=>j,by rw[a d];omega,by rw[a j];omega⟩
 ·rw[if_neg d] at h;have f:((P1.JC tag.data.toList&&P1.yC key.data.toList)&&decide (txt.toList=[]))=true:=by
   cases hh:((P1.JC tag.data.toList&&P1.yC key.data.toList)&&decide (txt.toList=[])) with
   |false=>exact absurd hh h
   |true=>rfl
  rw[Bool.and_eq_true,Bool.and_eq_true] at f;have k:=o f.1.1;have m:=n f.1.2;rw[g] at k m;exact⟨fun e=>absurd e d,k,m⟩
theorem ou(h:WF d)(tag txt key:qA)(hR:d.l.length<d.R)(hm:xC tag txt key≠false):WF {d with l:=d.l++[IB (d.n+1) tag txt key],n:=d.n+1}:=by
 have f:=h.next;have i:∀y,find (d.l++[IB (d.n+1) tag txt key]) y=if y=d.n+1 then some (IB (d.n+1) tag txt key) else find d.l y:=fun y=>gN (l:=d.l) (x:=IB (d.n+1) tag txt key) f y
 have o:(IB (d.n+1) tag txt key).id=d.n+1:=rfl;have g:∀y,nA (d.l++[IB (d.n+1) tag txt key]) y=true↔y=d.n+1\/nA d.l y=true:=by
  intro y;unfold nA;rw[i];by_cases e:y=d.n+1
  ·rw[if_pos e];simp[e]
  ·rw[if_neg e];simp[e]
 have k:EA (d.l++[IB (d.n+1) tag txt key])=EA d.l:=by
  funext y;unfold EA;rw[i];by_cases e:y=d.n+1
  ·have e0:find d.l y=none:=(by rw[e];simpa[nA] using f);rw[if_pos e,e0];rfl
  ·rw[if_neg e]
 have p:xA (d.l++[IB (d.n+1) tag txt key])=xA d.l:=by
  funext y;unfold xA;rw[i];by_cases e:y=d.n+1
  ·have e0:find d.l y=none:=(by rw[e];simpa[nA] using f);rw[if_pos e,e0];rfl
  ·rw[if_neg e]
 have w:=h.n0;refine⟨?_,fun x hx=>?_,by show 1<=d.n+1;omega,?_,h.room,(g 1).2 (.inr h.root),?_,?_,fun x hx q=>?_,fun x hx=>?_,?_,fun x hx=>?_,fun x hx=>?_⟩
 ·refine List.pairwise_append.2 ⟨h.xD,by simp,fun a r b m=>?_⟩;simp only[List.mem_singleton] at m;subst m;have:=h.zJ a r;show a.id<d.n+1;omega
 ·simp only[List.mem_append,List.mem_singleton] at hx;rcases hx with hx|rfl
  ·have:=h.zJ x hx;show 1<=x.id/\x.id<=d.n+1;omega
  ·show 1<=d.n+1/\d.n+1<=d.n+1;omega
 ·show(d.l++[_]).length<=d.R;simp;omega
 ·show EA (d.l++[_]) 1=0;rw[k];exact h.pM
 ·show Tr (fun y=>nA (d.l++[_]) y=true) (EA (d.l++[_])) (xA (d.l++[_]));rw[k,p];have t:=h.tr;refine⟨fun s=>?_,fun y u=>t.p0 y (fun j=>u ((g y).2 (.inr j))),fun x c v=>?_,t.par,t.AD,t.JM⟩
  ·rcases(g 0).1 s with e|e
   ·omega
   ·exact t.z e
  ·obtain⟨a,b,e⟩:=t.aB x c v;exact⟨(g x).2 (.inr a),(g c).2 (.inr b),e⟩
 ·simp only[List.mem_append,List.mem_singleton] at hx;rcases hx with hx|rfl
  ·exact h.elem x hx q
  ·rfl
 ·simp only[List.mem_append,List.mem_singleton] at hx;rcases hx with hx|rfl
  ·exact h.mC x hx
  ·exact Nat.zero_le _
 ·rcases h.nB with e|e
  ·exact .inl e
  ·exact .inr ((g _).2 (.inr e))
 ·simp only[List.mem_append,List.mem_singleton] at hx;rcases hx with hx|rfl
  ·exact h.mO x hx
  ·exact wq hm _
 ·simp only[List.mem_append,List.mem_singleton] at hx;rcases hx with hx|rfl
  ·exact h.xM x hx
  ·exact S0
theorem Ml{l:List P3.At}(h:P3.kC l≠false):l.length<=8:=by
 rcases Nat.lt_or_ge 8 l.length with hl|hl
 ·exact absurd (P3.PY hl) h
 ·exact hl
theorem jN(h:WF d)(r:Rc):WF (YA d r).2:=by
 unfold YA;split
 ·unfold rE;split
  ·exact h
  ·split
   ·exact h
   ·rename_i c1 c2 c3;simp only[ne_eq,not_or,Classical.not_not] at c2;have:=ou h r.tag r.txt r.key dA c2.2;rw[<-c2.1] at this;show WF {d with l:=d.l++[IB r.id r.tag r.txt r.key],n:=d.n+1};rw[<-c2.1];exact this
 ·split
  ·unfold YD;split
   ·rename_i hp;exact nu h (SM hp)
   ·exact h
  ·split
   ·unfold uF;split
    ·exact h
    ·split
     ·exact h
     ·rename_i c1 c2;exact vq h (by simpa using c1) c2
   ·split
    ·unfold XD;split
     ·exact h
     ·split
      ·exact h
      ·split
       ·exact h
       ·rename_i c3;exact tV h _ _ (fun _=>rfl) (fun _=>rfl) (fun _=>rfl) (fun _=>rfl) (fun _ _=>Ml c3) (fun _=>rfl) (fun _ _=>by show P3.kC r.attrs=true;simpa using c3)
    ·split
     ·unfold nF;split
      ·exact h
      ·split
       ·exact h
       ·split
        ·exact h
        ·exact tV h _ _ (fun _=>rfl) (fun _=>rfl) (fun _=>rfl) (fun _=>rfl) (fun _ hx=>hx) (fun _=>rfl) (fun _ hx=>hx)
     ·exact h
theorem T0(h:WF d)(i:Int):WF (gE d i).2:=by
 unfold gE;split
 ·exact h
 ·rename_i c;refine⟨h.xD,h.zJ,h.n0,h.len,h.room,h.root,h.pM,h.tr,h.elem,h.mC,?_,h.mO,h.xM⟩;show i=0\/nA d.l i=true;by_cases e:i=0
  ·exact .inl e
  ·exact .inr (by simpa[e] using c)
theorem ra(h:WF d)(i n:Int):WF (JE d i n).2:=by
 unfold JE;split
 ·exact h
 ·exact tV h _ _ (fun _=>rfl) (fun _=>rfl) (fun _=>rfl) (fun _=>rfl) (fun _ hx=>hx) (fun _=>rfl) (fun _ hx=>hx)
def ZE(R:Nat):D:=⟨[IB 1 ⟨#[114,111,111,116]⟩ ⟨#[]⟩ ⟨#[]⟩],1,R,0⟩
theorem xq{R:Nat}(h1:1<=R)(h2:R<=200):WF (ZE R):=by
 have a:∀y,find (ZE R).l y=if y=1 then some (IB 1 ⟨#[114,111,111,116]⟩ ⟨#[]⟩ ⟨#[]⟩) else none:=by
  intro y;show List.find? _ [_]=_;rw[List.find?_cons];by_cases e:y=1
  ·subst e;rfl
  ·rw[if_neg e];have:decide ((IB 1 ⟨#[114,111,111,116]⟩ ⟨#[]⟩ ⟨#[]⟩).id=y)=false:=by
    rw[decide_eq_false_iff_not];exact fun g=>e g.symm
   rw[this];rfl
 have b:∀y,EA (ZE R).l y=0:=by
  intro y;unfold EA;rw[a];split<;>rename_i e
  ·split at e
   ·injection e with e;subst e;rfl
   ·cases e
  ·rfl
 have d:∀y,xA (ZE R).l y=[]:=by
  intro y;unfold xA;rw[a];split<;>rename_i e
  ·split at e
   ·injection e with e;subst e;rfl
   ·cases e
  ·rfl
 refine⟨List.pairwise_singleton _ _,fun x hx=>?_,by show(1:Int)<=1;omega,h1,h2,?_,b 1,?_,fun x hx _=>?_,fun x hx=>?_,.inl rfl,fun x hx=>?_,fun x hx=>?_⟩
 ·simp only[ZE,List.mem_singleton] at hx;subst hx;show(1:Int)<=1/\(1:Int)<=1;omega
 ·unfold nA;rw[a];rfl
 ·refine⟨fun h=>?_,fun y _=>b y,fun x c f=>?_,fun y i=>absurd (b y) i,fun x=>?_,fun y=>⟨1,b y⟩⟩
  ·unfold nA at h;rw[a] at h;simp at h
  ·rw[d] at f;simp at f
  ·rw[d];exact List.nodup_nil
 ·simp only[ZE,List.mem_singleton] at hx;subst hx;rfl
 ·simp only[ZE,List.mem_singleton] at hx;subst hx;exact Nat.zero_le _
 ·simp only[ZE,List.mem_singleton] at hx;subst hx;exact⟨fun _=>ByteArray.toList_eq _,by show(4:Nat)<=60;omega,by show(0:Nat)<=60;omega⟩
 ·simp only[ZE,List.mem_singleton] at hx;subst hx;exact S0
end
end P5
namespace P5
open Go.RowKit Kd P4
structure ZB(w:World)(s:Sv)(l:List P3.At):Prop where
 len:l.length=s.n
 cap:s.n<=s.c
 cm:s.c<=maxLen
 nil:s.A=none->s.c=0
 holds:kA.AA w w.heap.size s.A l
 ty:∀b o,s.A=some (cA b o)->l≠[]->∃cur fr,w.heap[b]? = some (.cells cur 131 fr)
def vC(w:World)(S:Nat->Prop):Prop:=∀k cur fr,S k->w.heap[k]?≠some (.cells cur 131 fr)
theorem vC.none(w:World):vC w (fun _=>False):=fun _ _ _ h=>h.elim
section
variable{w w':World}{s:Sv}{l:List P3.At}
theorem ZB.but{S:Nat->Prop}(h:ZB w s l)(hb:iA S w w')(hS:vC w S):ZB w' s l:=by
 have key:∀b o,s.A=some ⟨b,o,Option.none⟩->l≠[]->w'.heap[b]? = w.heap[b]?:=by
  intro b o d e;obtain⟨c,g,f⟩:=h.ty b o d e;exact hb.block b (JA f) (fun i=>hS b c g i f)
 refine⟨h.len,h.cap,h.cm,h.nil,?_,fun b o d e=>?_⟩
 ·cases l with
  |nil=>exact Kind.AA.nil _ _ _
  |cons a r=>exact(h.holds.VB fun b ⟨o,d⟩ _=>key b o d FA).more hb.size
 ·obtain⟨c,g,f⟩:=h.ty b o d e;exact⟨c,g,(key b o d e).trans f⟩
theorem ZB.below(h:ZB w s l)(hb:fA w w'):ZB w' s l:=h.but (iA.oB hb (fun _=>False)) (vC.none w)
theorem ZB.fK(w:World):ZB w ⟨Option.none,0,0⟩ []:=⟨rfl,Zl,by simp[maxLen],fun _=>rfl,Kind.AA.nil _ _ _,fun _ _ h=>by cases h⟩
theorem ZB.own{B:Nat}{v:Value}(h:kA.Own w B v l):∃s:Sv,v=s.val/\ZB w s l:=by
 obtain⟨A,n,c,rfl,d,e,f,i,j⟩:=h.slice;refine⟨⟨A,n,c⟩,rfl,d,e,f,i,j,fun b o a k=>?_⟩;simp only at a;subst a;rcases h.form with⟨hv,rfl⟩|⟨g,c',cur,hv,_,_,_,hh,_⟩
 ·exact absurd rfl k
 ·injection hv with e1;injection e1 with e1;injection e1 with e1;subst e1;exact⟨cur,_,hh⟩
theorem ZB.drewN(h:ZB w s l)(n:Nat):ZB (w.drewN n) s l:=⟨h.len,h.cap,h.cm,h.nil,h.holds,h.ty⟩
theorem eJ{B:Nat}{A:vA}(h:kA.AA w B A l):P3.AA w B A l:=by
 intro k c;obtain⟨b,o,d,e,a⟩:=h.at c;exact⟨b,o,d,e,a 0 _ rfl,a 1 _ rfl,a 2 _ rfl⟩
end
structure Rw where
 b:Nat
 va:Sv
 vk:Sv
 nd:Nd
def Nd.cells(nd:Nd)(va vk:Sv):Array Value:=#[aA nd.id,aA nd.par,bA nd.tag,bA nd.txt,bA nd.key,va.val,vk.val,aA nd.note]
def pB(r:Rw):Sl Nat:=⟨r.nd.id,r.b⟩
structure Dx where
 a:Nat
 v:Value
 vi:Value
 R:Nat
 n:Int
 nB:Int
 rs:List Rw
def Dx.l(x:Dx):List Nd:=x.rs.map (·.nd)
def Dx.d(x:Dx):D:=⟨x.l,x.n,x.R,x.nB⟩
def fC(p:Nat)(x:Dx)(k:Nat):Prop:=k=p\/k=x.a\/x.v.ownBlock=some k\/x.vi.ownBlock=some k\/∃r∈x.rs,k=r.b\/r.vk.val.ownBlock=some k
structure wD(w:World)(B:Nat)(r:Rw):Prop where
 zA:w.heap[r.b]? = some (.cells (r.nd.cells r.va r.vk) 53 (0,0))
 base:B<=r.b
 mC:ZB w r.va r.nd.attrs
 kids:kI.Own w B r.vk.val r.nd.kids
structure Dc(w:World)(B p:Nat)(x:Dx):Prop where
 zA:w.heap[p]? = some (.cells #[lA x.a,x.vi,aA x.nB] 91 (0,0))
 base:B<=p
 ar:YB w B x.a x.R x.n x.v (x.rs.map pB)
 ids:kI.Own w B x.vi (MA x.l)
 nodes:∀r∈x.rs,wD w B r
 WH:∀r∈x.rs,dF x.vi r.vk.val
 pw:x.rs.Pairwise fun r s=>r.b≠s.b/\dF r.vk.val s.vk.val
theorem wD.lt{w:World}{B:Nat}{r:Rw}(h:wD w B r):r.b<w.heap.size:=JA h.zA
theorem wD.cell{w:World}{B:Nat}{r:Rw}(h:wD w B r)(i:Nat):w.cell? ⟨r.b,i,none⟩=(r.nd.cells r.va r.vk)[i]?:=cell_of_row w r.b i _ _ (0,0) h.zA
theorem wD.frozen{w:World}{B:Nat}{r:Rw}(h:wD w B r)(i:Nat):w.frozen? ⟨r.b,i,none⟩=false:=by
 have:=h.zA;simp[World.frozen?,this]
theorem wD.VB{w w':World}{B:Nat}{r:Rw}(h:wD w B r)(hb:w'.heap[r.b]? = w.heap[r.b]?)(hk:∀g,r.vk.val.ownBlock=some g->w'.heap[g]? = w.heap[g]?)(ha:ZB w' r.va r.nd.attrs):wD w' B r:=
 ⟨hb.trans h.zA,h.base,ha,h.kids.VB hk⟩
section
variable{w w':World}{B p:Nat}{x:Dx}
theorem Dc.lt(h:Dc w B p x){k:Nat}(hk:fC p x k):k<w.heap.size:=by
 rcases hk with rfl|rfl|hk|hk|⟨r,hr,rfl|hk⟩
 ·exact JA h.zA
 ·exact h.ar.lt
 ·exact(h.ar.own.lt hk).2
 ·exact(h.ids.lt hk).2
 ·exact(h.nodes r hr).lt
 ·exact((h.nodes r hr).kids.lt hk).2
theorem Dc.ge(h:Dc w B p x){k:Nat}(hk:fC p x k):B<=k:=by
 rcases hk with rfl|rfl|hk|hk|⟨r,hr,rfl|hk⟩
 ·exact h.base
 ·exact h.ar.base
 ·exact(h.ar.own.lt hk).1
 ·exact(h.ids.lt hk).1
 ·exact(h.nodes r hr).base
 ·exact((h.nodes r hr).kids.lt hk).1
theorem Dc.ty(h:Dc w B p x){k:Nat}(hk:fC p x k):∃cur t,w.heap[k]? = some (.cells cur t (0,0))/\(t=91\/t=143\/t=147\/t=3\/t=53):=by
 rcases hk with rfl|rfl|hk|hk|⟨r,hr,rfl|hk⟩
 ·exact⟨_,_,h.zA,.inl rfl⟩
 ·exact⟨_,_,h.ar.zA,.inr (.inl rfl)⟩
 ·obtain⟨c,a⟩:=h.ar.own.ty hk;exact⟨_,_,a,.inr (.inr (.inl rfl))⟩
 ·obtain⟨c,a⟩:=h.ids.ty hk;exact⟨_,_,a,.inr (.inr (.inr (.inl rfl)))⟩
 ·exact⟨_,_,(h.nodes r hr).zA,.inr (.inr (.inr (.inr rfl)))⟩
 ·obtain⟨c,a⟩:=(h.nodes r hr).kids.ty hk;exact⟨_,_,a,.inr (.inr (.inr (.inl rfl)))⟩
theorem Dc.other(h:Dc w B p x){k:Nat}{cur:Array Value}{t:TypeId}{fr:Nat×Nat}(hk:w.heap[k]? = some (.cells cur t fr))(h1:t≠91)(h2:t≠143)(h3:t≠147)(h4:t≠3)(h5:t≠53):¬fC p x k:=by
 intro b;obtain⟨c,f,a,d⟩:=h.ty b;rw[hk] at a;injection a with a;injection a with _ e;subst e;rcases d with e|e|e|e|e<;>contradiction
theorem Dc.QE(h:Dc w B p x):vC w (fC p x):=fun k a d b c=>h.other c pA pA pA pA pA b
theorem Dc.but{S:Nat->Prop}(h:Dc w B p x)(hb:iA S w w')(hS:∀k,fC p x k->¬S k)(hA:vC w S):Dc w' B p x:=by
 have a:∀k,fC p x k->w'.heap[k]? = w.heap[k]?:=fun k d=>hb.block k (h.lt d) (hS k d)
 refine⟨(a p (.inl rfl)).trans h.zA,h.base,h.ar.VB (a _ (.inr (.inl rfl))) (fun g b=>a g (.inr (.inr (.inl b)))),h.ids.VB (fun g b=>a g (.inr (.inr (.inr (.inl b))))),fun r c=>?_,h.WH,h.pw⟩;exact(h.nodes r c).VB (a _ (.inr (.inr (.inr (.inr ⟨r,c,.inl rfl⟩))))) (fun g b=>a g (.inr (.inr (.inr (.inr ⟨r,c,.inr b⟩))))) ((h.nodes r c).mC.but hb hA)
theorem Dc.below(h:Dc w B p x)(hb:fA w w'):Dc w' B p x:=h.but (iA.oB hb (fun _=>False)) (fun _ _ h=>h) (vC.none w)
theorem Dc.dE{B':Nat}(h:Dc w B p x)(hB:B'<=B):Dc w B' p x:=
 ⟨h.zA,Nat.le_trans hB h.base,h.ar.dE hB,h.ids.dE hB,fun r a=>⟨(h.nodes r a).zA,Nat.le_trans hB (h.nodes r a).base,(h.nodes r a).mC,(h.nodes r a).kids.dE hB⟩,h.WH,h.pw⟩
theorem Dc.drewN(h:Dc w B p x)(n:Nat):Dc (w.drewN n) B p x:=
 ⟨h.zA,h.base,h.ar.drewN n,h.ids,fun r a=>⟨(h.nodes r a).zA,(h.nodes r a).base,(h.nodes r a).mC.drewN n,(h.nodes r a).kids⟩,h.WH,h.pw⟩
theorem Dc.alloc(h:Dc w B p x)(o:Obj):Dc (w.alloc o) B p x:=h.below (Ze.alloc Zl o)
theorem Dc.frozen(h:Dc w B p x)(i:Nat):w.frozen? (cA p i)=false:=by
 have:=h.zA;simp[World.frozen?,this]
theorem Dc.c0(h:Dc w B p x):w.cell? (cA p 0)=some (lA x.a):=cell_of_row w p 0 _ _ (0,0) h.zA
theorem Dc.c1(h:Dc w B p x):w.cell? (cA p 1)=some x.vi:=cell_of_row w p 1 _ _ (0,0) h.zA
theorem Dc.c2(h:Dc w B p x):w.cell? (cA p 2)=some (aA x.nB):=cell_of_row w p 2 _ _ (0,0) h.zA
theorem Dc.xD(h:Dc w B p x):ZD x.l:=by
 have:=h.ar.xD.1;rw[List.pairwise_map] at this;unfold ZD Dx.l;rw[List.pairwise_map];exact this
theorem dG(x:Dx):x.l.length=x.rs.length:=by simp[Dx.l]
theorem ux(x:Dx){k:Nat}(hk:k<x.rs.length):x.l[k]'(by rw[dG];exact hk)=x.rs[k].nd:=by simp[Dx.l]
theorem Dc.lN(h:Dc w B p x)(y:Int):uE (x.rs.map pB) y=nA x.l y:=by
 rw[Bool.eq_iff_iff,vU h.ar.xD,wN];constructor
 ·rintro⟨s,a,e⟩;obtain⟨r,b,rfl⟩:=List.mem_map.1 a;exact⟨r.nd,List.mem_map.2 ⟨r,b,rfl⟩,e⟩
 ·rintro⟨s,a,e⟩;obtain⟨r,b,rfl⟩:=List.mem_map.1 a;exact⟨pB r,List.mem_map.2 ⟨r,b,rfl⟩,e⟩
theorem Dc.place(h:Dc w B p x){y:Int}(hy:nA x.l y=true):∃k,∃hk:k<x.rs.length,x.rs[k].nd.id=y/\find x.l y=some x.rs[k].nd:=by
 obtain⟨z,a,rfl⟩:=wN.1 hy;obtain⟨r,b,rfl⟩:=List.mem_map.1 a;obtain⟨k,hk,rfl⟩:=List.mem_iff_getElem.1 b;exact⟨k,hk,rfl,h.xD.find a⟩
theorem Dc.nd(h:Dc w B p x){k:Nat}(hk:k<x.rs.length):wD w B x.rs[k]:=h.nodes _ (List.getElem_mem hk)
theorem Dc.qW(h:Dc w B p x){i j:Nat}(hi:i<x.rs.length)(hj:j<x.rs.length)(hij:i≠j):x.rs[i].b≠x.rs[j].b/\dF x.rs[i].vk.val x.rs[j].vk.val:=by
 have:=List.pairwise_iff_getElem.1 h.pw;rcases Nat.lt_or_gt_of_ne hij with hl|hl
 ·exact this i j hi hj hl
 ·obtain⟨a,b⟩:=this j i hj hi hl;exact⟨Ne.symm a,b.symm⟩
structure aC(w:World)(B p:Nat)(x x':Dx)(w':World):Prop where
 dc:Dc w' B p x'
 but:iA (fC p x) w w'
 ft:∀k,fC p x' k->fC p x k\/w.heap.size<=k
theorem aC.trans{w2:World}{x1 x2:Dx}(h:aC w B p x x1 w')(k:aC w' B p x1 x2 w2):aC w B p x x2 w2:=by
 have c:=h.but.size;refine⟨k.dc,h.but.trans k.but (fun i a b=>?_),fun i a=>?_⟩
 ·rcases h.ft i b with e|e
  ·exact e
  ·omega
 ·rcases k.ft i a with e|e
  ·exact h.ft i e
  ·exact .inr dA
theorem aC.SF(h:Dc w B p x)(hb:fA w w'):aC w B p x x w':=⟨h.below hb,iA.oB hb _,fun _ h=> .inl h⟩
theorem aC.below{x':Dx}{w2:World}(h:aC w B p x x' w')(hb:fA w' w2):aC w B p x x' w2:=h.trans (aC.SF h.dc hb)
theorem aC.eD{x':Dx}(h:Dc w B p x)(k:aC w B p x x' w'):Below B w w':=k.but.eD (fun _ _ a=>h.ge a) (by have:=h.base;have:=h.lt (.inl rfl:fC p x p);omega)
theorem ZQ{α:Type}{l:List α}{k:Nat}{r s:α}(h:s∈l.set k r):s=r\/∃j,∃hj:j<l.length,k≠j/\s=l[j]:=by
 obtain⟨j,hj,rfl⟩:=List.mem_iff_getElem.1 h;rw[List.getElem_set];split
 ·exact .inl rfl
 ·rename_i e;exact .inr ⟨j,by simpa using hj,e,rfl⟩
def Dx.put(x:Dx)(k:Nat)(r:Rw):Dx:={x with rs:=x.rs.set k r}
theorem Dc.node(h:Dc w B p x){k:Nat}(hk:k<x.rs.length){r:Rw}(hb:r.b=x.rs[k].b)(hid:r.nd.id=x.rs[k].nd.id)
 (hw:iA (fun g=>g=x.rs[k].b\/x.rs[k].vk.val.ownBlock=some g) w w') (hn:wD w' B r) (hv:∀g,r.vk.val.ownBlock=some g->x.rs[k].vk.val.ownBlock=some g\/w.heap.size<=g):aC w B p x (x.put k r) w':=by
 have P:∀g,(g=x.rs[k].b\/x.rs[k].vk.val.ownBlock=some g)->fC p x g:=fun g a=> .inr (.inr (.inr (.inr ⟨_,List.getElem_mem hk,a⟩)))
 have C:iA (fC p x) w w':=hw.mono fun g _ a=>P g a
 have H:vC w (fun g=>g=x.rs[k].b\/x.rs[k].vk.val.ownBlock=some g):=fun g c f a=>h.QE g c f (P g a)
 have y:=h.nd hk;have v:=y.zA;have I:∀{g:Nat} {c:Array Value} {t:TypeId},w.heap[g]? = some (.cells c t (0,0))->t≠53->t≠3->w'.heap[g]? = w.heap[g]?:=by
  intro g c t a z A;refine hw.block g (JA a) ?_;rintro(rfl|e)
  ·exact WA a v z rfl
  ·obtain⟨d,J⟩:=y.kids.ty e;exact WA a J A rfl
 have n:(x.rs.set k r).map pB=x.rs.map pB:=by
  apply List.ext_getElem
  ·simp
  ·intro j z A;simp only[List.getElem_map,List.getElem_set];split
   ·rename_i e;subst e;simp[pB,hb,hid]
   ·rfl
 have D:MA ((x.rs.set k r).map (·.nd))=MA x.l:=by
  have:=congrArg (List.map (·.id)) n;simpa[MA,Dx.l,pB,List.map_map,Function.comp_def] using this
 have Q:∀{g:Nat} {c:Array Value},w.heap[g]? = some (.cells c 3 (0,0))->x.rs[k].vk.val.ownBlock≠some g->w'.heap[g]? = w.heap[g]?:=by
  intro g c a u;refine hw.block g (JA a) ?_;rintro(rfl|e)
  ·exact WA a v pA rfl
  ·exact u e
 refine⟨⟨(I h.zA pA pA).trans h.zA,h.base,?_,?_,?_,?_,?_⟩,C,?_⟩
 ·show YB w' B x.a x.R x.n x.v ((x.rs.set k r).map pB);rw[n];refine h.ar.VB (I h.ar.zA pA pA) (fun g a=>?_);obtain⟨c,E⟩:=h.ar.own.ty a;exact I E pA pA
 ·show kI.Own w' B x.vi (MA ((x.rs.set k r).map (·.nd)));rw[D];refine h.ids.VB (fun g a=>?_);obtain⟨c,E⟩:=h.ids.ty a;exact Q E (h.WH _ (List.getElem_mem hk) g a)
 ·intro s F;rcases ZQ (show s∈x.rs.set k r from F) with rfl|⟨j,l,u,rfl⟩
  ·exact hn
  ·obtain⟨K,L⟩:=h.qW hk l u;have q:=h.nd l;refine q.VB (hw.block _ q.lt ?_) (fun g a=>?_) (q.mC.but hw H)
   ·rintro(e|e)
    ·exact K e.symm
    ·obtain⟨d,J⟩:=y.kids.ty e;exact WA q.zA J pA rfl
   ·obtain⟨c,E⟩:=q.kids.ty a;exact Q E (fun e=>L g e a)
 ·intro s F;show dF x.vi s.vk.val;rcases ZQ (show s∈x.rs.set k r from F) with rfl|⟨j,l,u,rfl⟩
  ·intro g a e;rcases hv g e with o|o
   ·exact h.WH _ (List.getElem_mem hk) g a o
   ·have:=(h.ids.lt a).2;omega
  ·exact h.WH _ (List.getElem_mem l)
 ·show(x.rs.set k r).Pairwise _;refine List.pairwise_iff_getElem.2 fun i j T U V=>?_
  have G:i<x.rs.length:=(by simpa using T);have l:j<x.rs.length:=(by simpa using U);have R:∀m (M:m<x.rs.length),m≠k->r.b≠x.rs[m].b/\dF r.vk.val x.rs[m].vk.val:=by
   intro m M N;obtain⟨z,A⟩:=h.qW hk M (Ne.symm N);refine⟨by rw[hb];exact z,fun g a e=>?_⟩;rcases hv g a with o|o
   ·exact A g o e
   ·have:=((h.nd M).kids.lt e).2;omega
  rw[List.getElem_set,List.getElem_set];by_cases S:k=i
  ·rw[if_pos S,if_neg dA];exact R j l dA
  ·rw[if_neg S];by_cases o:k=j
   ·rw[if_pos o];obtain⟨z,A⟩:=R i G dA;exact⟨Ne.symm z,A.symm⟩
   ·rw[if_neg o];exact h.qW G l dA
 ·intro g a;rcases a with e|e|e|e|⟨s,F,e⟩
  ·exact .inl (.inl e)
  ·exact .inl (.inr (.inl e))
  ·exact .inl (.inr (.inr (.inl e)))
  ·exact .inl (.inr (.inr (.inr (.inl e))))
  ·have O:s∈x.rs.set k r:=F;rcases ZQ O with rfl|⟨j,l,_,rfl⟩
   ·rcases e with e|e
    ·exact .inl (.inr (.inr (.inr (.inr ⟨_,List.getElem_mem hk,.inl (by rw[e,hb])⟩))))
    ·rcases hv g e with o|o
     ·exact .inl (.inr (.inr (.inr (.inr ⟨_,List.getElem_mem hk,.inr o⟩))))
     ·exact .inr o
   ·exact .inl (.inr (.inr (.inr (.inr ⟨_,List.getElem_mem l,e⟩))))
theorem JP(h:Dc w B p x){k:Nat}(hk:k<x.rs.length){r:Rw}{f:Nd->Nd}(hf:r.nd=f x.rs[k].nd):(x.put k r).l=mB x.l x.rs[k].nd.id f:=by
 have:=h.xD.pq (k:=k) (by rw[dG];exact hk) f;rw[ux x hk] at this;rw[<-this];show(x.rs.set k r).map (·.nd)=(x.rs.map (·.nd)).set k _;rw[List.map_set,hf]
theorem Dc.LP(h:Dc w B p x){k:Nat}(hk:k<x.rs.length){r:Rw}(hb:r.b=x.rs[k].b)(hid:r.nd.id=x.rs[k].nd.id)(hvk:r.vk=x.rs[k].vk)(hkd:r.nd.kids=x.rs[k].nd.kids)(ha:ZB w r.va r.nd.attrs){i:Nat}{u:Value}
 (hc:r.nd.cells r.va r.vk=(x.rs[k].nd.cells x.rs[k].va x.rs[k].vk).setIfInBounds i u):aC w B p x (x.put k r) (w.setCell ⟨x.rs[k].b,i,none⟩ u):=by
 have e:=h.nd hk;have a:iA (fun g=>g=x.rs[k].b\/x.rs[k].vk.val.ownBlock=some g) w (w.setCell ⟨x.rs[k].b,i,none⟩ u):=iA.setCell (iA.refl _ _) (fun _=> .inl rfl) u;refine h.node hk hb hid a ⟨?_,by rw[hb];exact e.base,ha.but a (fun g c f j=>h.QE g c f (.inr (.inr (.inr (.inr ⟨_,List.getElem_mem hk,j⟩))))),?_⟩ (fun g j=> .inl (by rw[<-hvk];exact j))
 ·rw[hb,hc];exact heap_set e.zA i u
 ·rw[hvk,hkd];refine e.kids.VB (fun g j=>Below.heap_setCell _ _ _ _ ?_);rintro rfl;obtain⟨d,l⟩:=e.kids.ty j;exact WA l e.zA pA rfl
theorem Dc.Wc(h:Dc w B p x){k:Nat}(hk:k<x.rs.length){r:Rw}(hb:r.b=x.rs[k].b)(hva:r.va=x.rs[k].va){f:List Int->List Int}(hnd:r.nd=YC f x.rs[k].nd)(hw:iA (fun g=>x.rs[k].vk.val.ownBlock=some g) w w')(hown:kI.Own w' B r.vk.val r.nd.kids)
 (hv:∀g,r.vk.val.ownBlock=some g->x.rs[k].vk.val.ownBlock=some g\/w.heap.size<=g):aC w B p x (x.put k r) (w'.setCell ⟨x.rs[k].b,6,none⟩ r.vk.val):=by
 have j:=h.nd hk;have m:x.rs[k].vk.val.ownBlock≠some x.rs[k].b:=by
  intro e;obtain⟨d,n⟩:=j.kids.ty e;exact WA n j.zA pA rfl
 have a:w'.heap[x.rs[k].b]? = some (.cells (x.rs[k].nd.cells x.rs[k].va x.rs[k].vk) 53 (0,0)):=(hw.block _ j.lt m).trans j.zA;have i:iA (fun g=>g=x.rs[k].b\/x.rs[k].vk.val.ownBlock=some g) w (w'.setCell ⟨x.rs[k].b,6,none⟩ r.vk.val):=iA.setCell (hw.mono fun _ _ l=> .inr l) (fun _=> .inl rfl) _;refine h.node hk hb (by rw[hnd];rfl) i ⟨?_,by rw[hb];exact j.base,?_,?_⟩ hv
 ·rw[hb,hva,hnd];exact heap_set a 6 _
 ·have:r.nd.attrs=x.rs[k].nd.attrs:=(by rw[hnd];rfl);rw[hva,this];exact j.mC.but i (fun g c f l=>h.QE g c f (.inr (.inr (.inr (.inr ⟨_,List.getElem_mem hk,l⟩)))))
 ·refine hown.VB (fun g l=>Below.heap_setCell _ _ _ _ ?_);rintro rfl;obtain⟨d,n⟩:=hown.ty l;exact WA n a pA rfl
end
end P5
namespace P3
open Go.RowKit
theorem fi(l m:List At)(A B:vA)(n n' c d:Nat)(w:World)(hn:l.length=n)(hn':m.length=n')(hl:n<=1000000)(hm:n'<=1000000)(H:AA w w.heap.size A l)(H2:AA w w.heap.size B m):
 jA 43 #[.slice A n c,.slice B n' d] w fun e w'=>e= .returned (.bool (IE l m))/\fA w w':=by
 have u:=Zh H;have r:=Zh H2;have s:=Zh hn;have j:=Zh hn';clear H H2 hn hn';by_cases a:n=n'
 ·subst a;go_enter func43,ntmps43;go_wp2_with fail;go_loopw [5] (fun i wr=>∃k:Nat,k<=n/\i = aA k/\Hid (fA w wr)/\Hid (II l m k)) (fun i _=>n-(intOf i).toNat)
  case atStart=>exact⟨0,by omega,rfl,Zh Ze,Zh (II.zero _ _)⟩
  case round=>
   obtain⟨k,F,rfl,q,t⟩:=hrel;by_cases v:k<n
   ·have f:k<l.length:=(IA s.out);have g:k<m.length:=(IA j.out);obtain⟨b,o,rfl,G,I,J,K⟩:=(u.below q Zl) k f;obtain⟨L,M,rfl,x,y,z,C⟩:=(r.below q Zl) k g;have N:=ie;cases hat:kF l[k] m[k]
    ·have D:=UR hat;have p:=Zh hat;clear hat;go_wp2_with fail;go_quiet (fail);go_wp2_with fail;go_ret;exact⟨WC (OY f g p).symm,OC q _⟩
    ·have D:=UR hat;have p:=Zh hat;clear hat;go_wp2_with fail;go_quiet (fail);go_wp2_with fail;go_roundw
     case rel=>exact⟨k+1,by omega,by go_num,Zh (OC q _),Zh (t.next f g p)⟩
     case measure=>simp[intOf];omega
   ·obtain rfl:k=n:=dA
    go_wp2_with fail;go_ret;exact⟨WC (t.all s j).symm,q⟩
 ·have O:((n:Int) != (n':Int))=true:=jB;have E:Hid (l.length≠m.length):=Zh (by rw[s.out,j.out];exact a);clear a;go_enter func43,ntmps43;go_wp2_with fail;go_ret;exact⟨WC (NY E).symm,Ze⟩
end P3
namespace P5
open Go.RowKit Kd P4
def SD:List Int->Int->Nat
 |[],_=>0
 |a:: r,t=>if t=a then 0 else SD r t+1
theorem Nq(l:List Int)(t:Int):SD l t<=l.length:=by
 induction l with
 |nil=>simp[SD]
 |cons a r ih=>simp only[SD,List.length_cons];split<;>omega
theorem yR:∀{l:List Int} {t:Int} {k:Nat} (hk:k<l.length),l[k]=t->(∀j (h:j<l.length),j<k->l[j]≠t)->SD l t=k
 |[],_,_,hk,_,_=>absurd hk FA
 |a:: r,t,0,_,h,_=>by simp only[List.getElem_cons_zero] at h;simp[SD,h]
 |a:: r,t,k+1,hk,h,hj=>by
  have h0:=hj 0 FA dA;simp only[List.getElem_cons_zero] at h0;rw[SD,if_neg (fun e=>h0 e.symm),yR (k:=k) (by simpa using hk) (by simpa using h) (fun j h1 h2=>by have:=hj (j+1) (by simpa using h1) dA;rwa[List.getElem_cons_succ] at this)]
theorem dV{l:List Int}{t:Int}(h:t∈l):SD l t<l.length:=by
 induction l with
 |nil=>simp at h
 |cons a r ih=>
  simp only[SD,List.length_cons];split
  ·omega
  ·rename_i e;have:=ih ((List.mem_cons.1 h).resolve_left e);omega
theorem yE{w:World}{B:Nat}{A:vA}{l:List Int}(h:kI.AA w B A l){k:Nat}(hk:k<l.length):∃b o,A=some (cA b o)/\b<B/\w.cell? ⟨b,o+k,none⟩=some (aA l[k]):=by
 obtain⟨b,o,a,c,d⟩:=h.at hk;refine⟨b,o,a,c,?_⟩;have:=d 0 _ rfl;rw[show k*kI.size+0=k from Nat.mul_one k] at this;exact this
theorem WM(l:List Int)(t:Int)(A:vA)(n c:Nat)(w:World)(hn:l.length=n)(hn2:n<=1000000)(ht:t∈l)(H:kI.AA w w.heap.size A l):
 jA 133 #[.slice A n c,aA t] w fun e w'=>e= .returned (aA (SD l t))/\w=w':=by
 have q:=Zh H;have p:=Zh hn;have r:=Zh ht;clear H hn ht;go_enter func133,ntmps133;go_wp2_with fail;go_loop [8] (fun i=>∃k:Nat,k<=n/\i = aA k/\Hid (∀j (h:j<l.length),j<k->l[j]≠t)) (fun i=>n-(intOf i).toNat)
 case atStart=>exact⟨0,by omega,rfl,Zh (fun j _ h=>by omega)⟩
 case round=>
  obtain⟨k,y,rfl,f⟩:=hrel;by_cases s:k<n
  ·have d:k<l.length:=(IA p.out);obtain⟨b,o,rfl,z,B⟩:=yE q d;by_cases a:t=l[k]
   ·have u:(t==l[k])=true:=beq_iff_eq.2 a;have g:=Zh a;clear a;go_wp2;go_ret;exact⟨aP (by rw[yR d g.out.symm f.out]),rfl⟩
   ·have u:(t==l[k])=false:=beq_eq_false_iff_ne.2 a;have g:=Zh a;clear a;go_wp2;go_round
    case rel=>
     refine⟨k+1,by omega,by go_num,Zh (fun j m v=>?_)⟩;by_cases e:j=k
     ·subst e;exact fun x=>g x.symm
     ·exact f j m dA
    case measure=>simp[intOf];omega
  ·exfalso;obtain⟨j,m,e⟩:=List.mem_iff_getElem.1 r;exact f j m (IA p.out) e
theorem wm(w:World)(ty:TypeId)(b o c:Nat)(hc:(w.cell? (cA b o)).isSome=true)(hf:w.frozen? (cA b o)=false):
 (Builtin.clear_ #[34] ty #[.slice (some (cA b o)) 1 c]).run prog w= .ok (.tuple #[]) (w.setCells b o [aA 0]):=by
 have a:=run_storeCells_cells (P:=prog) b o [aA 0] 0 w (by intro j d;simp at d;subst d;simpa using hc) (by intro j d;simp at d;subst d;simpa using hf) (by simp[Value.oneCell']);simp only[Nat.add_zero] at a;have e:(Builtin.zeroCells (Value.int .i64 0).cells 1).toList=[aA 0]:=by
  simp[Builtin.zeroCells,Value.cells,Array.range]
 simp[Builtin.clear_,run_underlying underlying34,e,a]
theorem eX(g i r c:Nat){B:Nat}{l:List Int}(w:World)(hl:l.length=i+1+r)(hl2:i+1+r<=1000000)(h:kI.Own w B (.slice (some (cA g 0)) (i+1+r) c) l):
 jA 237 #[.slice (some (cA g 0)) (i+1+r) c,aA i,aA ((i:Int)+1)] w fun e w'=>
  e= .returned (.slice (some (cA g 0)) (i+r) c)/\kI.Own w' B (.slice (some (cA g 0)) (i+r) c) (l.eraseIdx i)/\iA (fun k=>k=g) w w':=by
 obtain⟨N,C,D,E,F⟩:=info_parts ZV;rcases h.form with⟨hv,_⟩|⟨g',c',cur,hv,_,hBg,hlt,hh,qD,UC,f,v⟩
 ·cases hv
 injection hv with e1 e2 e3;injection e1 with e1;injection e1 with e1;subst e1;subst e3;clear e2;rw[hl] at qD v;have f:cur.size=c*1:=f;have v:cur.toList.take ((i+1+r)*1)=kI.cells l:=v;obtain⟨news,a⟩:∃news,news=kI.cells (l.drop (i+1)):=⟨_,rfl⟩;have G:news.length=r:=(by rw[a,Kind.dI,List.length_drop,hl];show(i+1+r-(i+1))*1=r;omega);have p:news=(kI.cells l).drop ((i+1)*1):=(by rw[a,Kind.JO];rfl);have b:∀k,w.drew.cell? (cA g k)=cur[k]?:=fun k=>cell_of_row w.drew g k _ _ (0,0) hh
 have O:Hid (news.length=r*1):=(by show news.length=r*1;omega);have P:Hid (∀u∈news,u.oneCell'=true):=(by intro u j;rw[a] at j;exact Kind.CQ _ _ u j);have Q:Hid (∀t,t<news.length->(w.drew.cell? ⟨g,0+i*1+t,none⟩).isSome=true/\w.drew.frozen? ⟨g,0+i*1+t,none⟩=false):=by
  intro t x;refine⟨by rw[b,Array.getElem?_eq_getElem dA];rfl,?_⟩;have m:w.drew.heap[g]? = some (.cells cur kI.e (0,0)):=hh;simp[World.frozen?,m]
 have o:∀t u,news[t]? = some u->w.drew.cell? ⟨g,i+1+t,none⟩=some u:=by
  intro t u j;have x:=(List.getElem?_eq_some_iff.1 j).1;rw[b,<-j,p,List.getElem?_drop,<-v,List.getElem?_take,if_pos dA,Array.getElem?_toList,Nat.mul_one]
 obtain⟨A,hA,R⟩:∃A:Addr,(if c=i+1 then(some ((cA g 0):Addr)) else some ⟨g,i+1,none⟩)=some A/\Hid (∀t u,news[t]? = some u->w.drew.cell? (A.add t)=some u):=by
  by_cases y:c=i+1
  ·refine⟨(cA g 0),if_pos y,fun t u j=>?_⟩;have x:=(List.getElem?_eq_some_iff.1 j).1;omega
  ·refine⟨⟨g,i+1,none⟩,if_neg y,fun t u j=>?_⟩;rw[Addr.add_lit];exact o t u j
 obtain⟨d,n⟩:∃d,d=w.drew.setCells g (0+i*1) news:=⟨_,rfl⟩;have m:w.drew.heap[g]? = some (.cells cur kI.e (0,0)):=hh;obtain⟨T,z,H,K⟩:=cI g news (0+i*1) w.drew cur _ _ m;rw[<-n] at z;have U:∀I q,(Builtin.clear_ #[34] I #[.slice (some ⟨g,i+r,none⟩) (i+1+r-(i+r)) q]).run prog d= .ok (.tuple #[]) (d.setCells g (i+r) [aA 0]):=
  fun I q=>by
   rw[show i+1+r-(i+r)=1 by omega];exact wm d I g (i+r) q (by rw[cell_of_row d g _ _ _ (0,0) z,Array.getElem?_eq_getElem dA];rfl) (by simp[World.frozen?,z])
 obtain⟨c2,L,J,M⟩:=cI g [aA 0] (i+r) d T _ _ z;have V:Hid (kI.Own (d.setCells g (i+r) [aA 0]) B (.slice (some (cA g 0)) (i+r) c) (l.eraseIdx i)):=by
  refine Kind.OH (by rw[List.length_eraseIdx_of_lt dA];omega) hBg L dA UC (by rw[J,H];exact f) ?_;have W:=qa (s:=1) v dA p (zs:=[aA 0]) rfl H (fun k X=>by have:=K k X;rwa[Nat.zero_add] at this) J (by simpa using M);rw[show kI.size=1 from rfl,W,qX,Kind.rL,Kind.FO,<-a];rfl
 have Y:Hid (iA (fun k=>k=g) w (d.setCells g (i+r) [aA 0])):=by
  rw[n];exact iA.setCells (S:=fun k=>k=g) (iA.setCells (S:=fun k=>k=g) (iA.drew (iA.refl _ w)) (fun _=>rfl) _ _) (fun _=>rfl) _ _
 have Z:Hid (d=w.drew.setCells g (0+i*1) news):=n;have a0:i<=c:=dA;have a1:i+1<=c:=dA;have a2:((i:Int)==(i:Int)+1)=false:=beq_eq_false_iff_ne.2 dA;unfold maxLen at UC;have a3:(0:Int)<=(i:Int)+1:=dA;have a4:(i:Int)+1<=(i:Int)+1+(r:Int):=dA;clear n hh m f v a G p b o z H K L J M h hl D F;go_enter func237,ntmps237;go_wp2_with fail
 go_region_law (refine step_append_room rfl (.tmp 22) (.tmp 25) 34 rfl 3 N 1 underlying34 C E g 0 i c (by simp[Act.eval,Act.put]) A r (c-(i+1)) news (by simp[Act.eval,Act.put]) O R P dA Q ?_;rw[<-Z.out])
 go_wp2;go_ret;exact⟨rfl,V,Y⟩
theorem gY:∀{l:List Int} {t:Int},l.Nodup->t∈l->l.eraseIdx (SD l t)=less t l
 |[],_,_,h=>absurd h FA
 |a:: r,t,hn,h=>by
  obtain⟨h1,h2⟩:=List.nodup_cons.1 hn;by_cases e:t=a
  ·subst e;simp only[SD,if_true,List.eraseIdx_cons_zero,less];rw[List.filter_cons];simp only[ne_eq,not_true_eq_false,decide_false,Bool.false_eq_true,if_false];exact(List.filter_eq_self.2 (fun c hc=>by simp;rintro rfl;exact h1 hc)).symm
  ·have ih:=gY h2 ((List.mem_cons.1 h).resolve_left e);rw[SD,if_neg e,List.eraseIdx_cons_succ,ih];simp only[less];rw[List.filter_cons];simp[Ne.symm e]
def Oq(w:World)(B:Nat)(v:Value)(l:List Int)(t:Int)(e:Ending)(w':World):Prop:=
 ∃A n c,e= .returned (.slice A n c)/\kI.Own w' B (.slice A n c) (less t l)/\iA (fun k=>v.ownBlock=some k) w w'/\(Value.slice A n c).ownBlock=v.ownBlock
theorem uX(l:List Int)(t:Int){B:Nat}{v:Value}(w:World)(hn:l.length<=1000000)(ht:t∈l)(hd:l.Nodup)(h:kI.Own w B v l):
 jA 244 #[v,aA t] w (Oq w B v l t):=by
 have d:=dV ht;obtain⟨g,c,rfl⟩:∃g c,v= .slice (some (cA g 0)) l.length c:=by
  rcases h.form with⟨_,rfl⟩|⟨g,c,cur,rfl,_⟩
  ·simp at ht
  ·exact⟨g,c,rfl⟩
 obtain⟨k,a⟩:∃k,k=SD l t:=⟨_,rfl⟩;rw[<-a] at d;obtain⟨r,b⟩:∃r,l.length=k+1+r:=⟨l.length-(k+1),by omega⟩;rw[b] at h hn|-;obtain⟨A,n,I,s,u,x,y,z,f⟩:=h.slice;injection s with e1 e2 e3;subst e1;subst e2;subst e3;have H:=Zh h;have C:=Zh f;have j:=Zh b;have m:=Zh a;have o:=Zh ht;have D:=Zh hd;clear h u x y z f b a ht hd d;go_enter func244,ntmps244;go_wp2_with fail;refine PA (WM l t _ (k+1+r) c w j hn o C) ?_;rw[<-m.out];go_wp2_with fail;refine(eX g k r c w j hn H).mono ?_;rintro e J ⟨rfl,p,q⟩;have E:=Zh p;have F:=Zh q;clear p q;go_wp2_with fail;go_ret;refine⟨some (cA g 0),k+r,c,rfl,?_,F.mono (fun i _ G=>by subst G;rfl),rfl⟩;rw[<-gY D.out o.out,<-m.out];exact E
def ZR{α:Type}(K:Kind prog α)(w:World)(l:List α)(e:Ending)(w':World):Prop:=∃A n c,e= .returned (.slice A n c)/\K.Own w' w.heap.size (.slice A n c) l/\fA w w'
theorem nQ(l:List Int)(A:vA)(n c:Nat)(w:World)(hn:l.length=n)(hn2:n<=1000000)(hz:A=none->c=0/\n=0)(H:kI.AA w w.heap.size A l):
 jA 38 #[.slice A n c] w (ZR kI w l):=by
 cases A with
 |none=>
  obtain⟨rfl,rfl⟩:=hz rfl;obtain rfl:l=[]:=List.length_eq_zero_iff.1 hn;clear H hn hz;have f:=fun w'=>Lib.run_eql_slice_nil (P:=prog) w' 34 3 Option.none 0 0 0 0 underlying34
  go_enter func38,ntmps38;go_wp2;go_ret;exact⟨none,0,0,rfl,Kind.Own.nil _ _ _,Ze⟩
 |some a=>
  have g:=Zh hn;have i:=Zh H;clear H hn hz;have f:=fun w'=>Lib.run_eql_slice_nil (P:=prog) w' 34 3 (some a) n c 0 0 underlying34
  go_enter func38,ntmps38;go_wp2_with (at_builtin;refine kI.QF rfl _ _ rfl (v:=.slice (some ⟨w.heap.size,0,Option.none⟩) 0 0) (l:=[]) (m:=l) (B:=w.heap.size) rfl (Kind.Own.made kI w _ Zl) rfl g KF (i.on (Zb _ _)) jB FA ?_;intro s t b d j);go_ret;obtain⟨o,p,q,rfl,_⟩:=b.slice;exact⟨o,p,q,rfl,b,(Zb _ _).grown d FA (fun k r=>by simp[Value.ownBlock] at r;omega)⟩
theorem uT(l:List P3.At)(A:vA)(n c:Nat)(w:World)(hn:l.length=n)(hn2:n<=1000000)(hz:A=none->c=0/\n=0)(H:kA.AA w w.heap.size A l):
 jA 77 #[.slice A n c] w (ZR kA w l):=by
 cases A with
 |none=>
  obtain⟨rfl,rfl⟩:=hz rfl;obtain rfl:l=[]:=List.length_eq_zero_iff.1 hn;clear H hn hz;have f:=fun w'=>Lib.run_eql_slice_nil (P:=prog) w' 51 131 Option.none 0 0 0 0 underlying51
  go_enter func77,ntmps77;go_wp2;go_ret;exact⟨none,0,0,rfl,Kind.Own.nil _ _ _,Ze⟩
 |some a=>
  have g:=Zh hn;have i:=Zh H;clear H hn hz;have f:=fun w'=>Lib.run_eql_slice_nil (P:=prog) w' 51 131 (some a) n c 0 0 underlying51
  go_enter func77,ntmps77;go_wp2_with (at_builtin;refine kA.QF rfl _ _ rfl (v:=.slice (some ⟨w.heap.size,0,Option.none⟩) 0 0) (l:=[]) (m:=l) (B:=w.heap.size) rfl (Kind.Own.made kA w _ Zl) rfl g KF (i.on (Zb _ _)) jB FA ?_;intro s t b d j);go_ret;obtain⟨o,p,q,rfl,_⟩:=b.slice;exact⟨o,p,q,rfl,b,(Zb _ _).grown d FA (fun k r=>by simp[Value.ownBlock] at r;omega)⟩
def oS:Go.Shelf.Ren:=⟨fun|21=>216|27=>245|28=>246|35=>264|39=>272|n=>n,fun|0=>0|3=>3|4=>4|22=>34|n=>n,fun|n=>n⟩
theorem xP:Go.Proofs.Lays2.n21 prog oS:={
 mixed:=by kernel_rfl
 f21:=func216.trans (congrArg some (by kernel_rfl))
 f27:=func245.trans (congrArg some (by kernel_rfl))
 f28:=func246.trans (congrArg some (by kernel_rfl))
 f35:=func264.trans (congrArg some (by kernel_rfl))
 f39:=func272.trans (congrArg some (by kernel_rfl))
 t0:=underlying0
 a0:=isAgg0
 z0:=sizeOf0
 v0:=zeroValue0
 t3:=underlying3
 a3:=isAgg3
 z3:=sizeOf3
 v3:=zeroValue3
 t4:=underlying4
 a4:=isAgg4
 z4:=sizeOf4
 v4:=zeroValue4
 t22:=underlying34
 a22:=isAgg34
 z22:=sizeOf34
 v22:=zeroValue34
 i3:=ZV}
theorem Pq{c2:Array Value}{C:List Value}{n i:Nat}{u:Value}(hC:C.length=n)(hi:i<=n)(hs:n+1<=c2.size)(h:∀k,k<n+1->c2[k]? = if k<i then C[k]? else if k=i then some u else C[k-1]?):
 c2.toList.take (n+1)=C.take i++u:: C.drop i:=by
 apply List.ext_getElem?;intro k;rw[List.getElem?_take];have a:(C.take i).length=i:=(by rw[List.length_take];omega);by_cases b:k<n+1
 ·rw[if_pos b,Array.getElem?_toList,h k b];by_cases c:k<i
  ·rw[if_pos c,List.getElem?_append_left dA,List.getElem?_take,if_pos c]
  ·rw[if_neg c,List.getElem?_append_right dA,a];by_cases d:k=i
   ·subst d;simp
   ·obtain⟨m,rfl⟩:∃m,k=i+(m+1):=⟨k-i-1,by omega⟩;rw[if_neg d,show i+(m+1)-i=m+1 by omega,List.getElem?_cons_succ,List.getElem?_drop,show i+(m+1)-1=i+m by omega]
 ·rw[if_neg b,List.getElem?_eq_none];simp only[List.length_append,List.length_cons,List.length_drop,a];omega
theorem Xi(l:List Int)(i:Nat)(t:Int):kI.cells (l.take i++t:: l.drop i)=(kI.cells l).take i ++ aA t:: (kI.cells l).drop i:=by
 rw[Kind.rL];show _++kI.cells ([t]++l.drop i)=_;rw[Kind.rL,Kind.FO,Kind.JO];have:i*kI.size=i:=Nat.mul_one i;rw[this];rfl
theorem eH(l:List Int):(kI.cells l).length=l.length:=by rw[Kind.dI];exact Nat.mul_one _
def xm(w:World)(B:Nat)(v:Value)(l:List Int)(e:Ending)(w':World):Prop:=
 ∃A n c,e= .returned (.slice A n c)/\kI.Own w' B (.slice A n c) l/\iA (fun k=>v.ownBlock=some k) w w'/\∀g,(Value.slice A n c).ownBlock=some g->v.ownBlock=some g\/w.heap.size<=g
theorem iY(l:List Int)(t:Int)(i:Nat){B vb:Nat}{v:Value}(w:World)(hi:i<=l.length)(hl:l.length<=1000000)(hB:B<=w.heap.size)(h:kI.Own w B v l)
 (hb:w.heap[vb]? = some (.cells #[aA t] 3 (0,0))) (hne:v.ownBlock≠some vb):
 jA 216 #[v,aA i,.slice (some (cA vb 0)) 1 1] w (xm w B v (l.take i++t:: l.drop i)):=by
 have o:∀j u,([aA t]:List Value)[j]? = some u->w.cell? ⟨vb,0+j,none⟩=some u:=by
  intro j u D;cases j with
  |zero=>
   have:Value.int .i64 t=u:=(by simpa using D);subst this;exact cell_of_row w vb 0 _ _ (0,0) hb
  |succ j=>simp at D
 have p:∀u∈([aA t]:List Value),u.oneCell'=true:=(by intro u hu;simp at hu;subst hu;rfl);have O:∀u∈kI.cells l,u.oneCell'=true:=Kind.CQ _ _;have d:∀(W:World) (g:Nat) (cur:Array Value) (c:Nat),B<=g->W.heap[g]? = some (.cells cur 3 (0,0))->l.length+1<=c->c<=maxLen->cur.size=c->(∀k,k<l.length+1->cur[k]? = if k<i then(kI.cells l)[k]? else if k=i then some (aA t) else(kI.cells l)[k-1]?)->
  kI.Own W B (.slice (some (cA g 0)) (l.length+1) c) (l.take i++t:: l.drop i):=by
  intro W g cur c q F n K h3 h4;refine Kind.OH (cur:=cur) (by simp;omega) q F n K (by rw[h3];exact(Nat.mul_one c).symm) ?_;rw[show(l.length+1)*kI.size=l.length+1 from Nat.mul_one _,Pq (eH l) hi (by omega) h4,Xi]
 have r:∀c,grownCap w (l.length+1) c 3<=maxLen:=fun c=>grownCap_le_maxLen w _ c _ (by unfold maxLen;omega)
 have s:∀c,l.length+1<=grownCap w (l.length+1) c 3:=fun c=>grownCap_ge w _ c _
 have E:∀k,(Builtin.zeroCells (Value.int .i64 0).cells k).size=k:=fun k=>by simp[Builtin.zeroCells,Value.cells]
 have H:∀(c:Nat) (k:Nat),k<l.length+1->i=l.length->((kI.cells l++[Value.int .i64 t]).toArray++Builtin.zeroCells (Value.int .i64 0).cells c)[k]? = if k<i then(kI.cells l)[k]? else if k=i then some (aA t) else(kI.cells l)[k-1]?:=by
  intro c k x P;have Q:(kI.cells l++[Value.int .i64 t]).toArray.size=l.length+1:=(by simp[eH]);rw[Array.getElem?_append_left (by omega),List.getElem?_toArray];by_cases n:k<i
  ·rw[if_pos n,List.getElem?_append_left (by rw[eH];omega)]
  ·rw[if_neg n,List.getElem?_append_right (by rw[eH];omega),eH,if_pos (by omega),show k-l.length=0 by omega];rfl
 rcases h.form with⟨rfl,rfl⟩|⟨g,c,cur,rfl,_,hBg,hlt,F,qD,UC,hcs,hta⟩
 ·obtain rfl:i=0:=by simpa using hi
  refine(Any2.slices_Insert_int_end_grow xP none 0 0 vb 0 1 1 [] [aA t] w (by omega) (by omega) (by omega) (by omega) rfl rfl (fun _=>rfl) (fun a R=>by cases R) o p).mono ?_;rintro e w' ⟨rfl,rfl⟩;have Q:=H (grownCap w 1 0 3-1);refine⟨some ⟨w.heap.size,0,none⟩,1,grownCap w 1 0 3,rfl,?_,iA.alloc (iA.drew (iA.refl _ _)) _,fun g q=> .inr (by simp[Value.ownBlock] at q;omega)⟩;exact d _ w.heap.size _ _ hB (heap_alloc_new w.drew _) (s 0) (r 0) (by have:=s 0;simp at this;simp[E,show oS.t 3=3 from rfl];omega) (fun k x=>Q k x rfl)
 ·have T:cur.size=c:=hcs.trans (Nat.mul_one c);have U:cur.toList.take l.length=kI.cells l:=(by rw[<-hta];exact congrArg (fun m=>cur.toList.take m) (Nat.mul_one _).symm);have y:∀k,k<l.length->(kI.cells l)[k]? = cur[k]?:=fun k x=>by rw[<-U,List.getElem?_take,if_pos x,Array.getElem?_toList]
  have L:∀j u,(kI.cells l)[j]? = some u->w.cell? ⟨g,0+j,none⟩=some u:=by
   intro j u D;have V:=(List.getElem?_eq_some_iff.1 D).1;rw[eH] at V;rw[Nat.zero_add,cell_of_row w g j _ _ _ F,<-y j V];exact D
  have z:∀k,w.cell? (cA g k)=cur[k]?:=fun k=>cell_of_row w g k _ _ _ F
  have X:∀k,w.frozen? (cA g k)=false:=fun k=>by simp[World.frozen?,F]
  have Z:w.heap[g]? = some (.cells cur 3 (0,0)):=F;have a0:vb≠g:=fun e=>hne (by rw[e];rfl)
  by_cases P:i=l.length
  ·subst P;by_cases b:l.length+1<=c
   ·refine(Any2.slices_Insert_int_end_room xP g 0 l.length c vb 0 1 1 [aA t] w (by omega) b (by unfold maxLen at UC;omega) rfl (fun j D=>by rw[z,Array.getElem?_eq_getElem (by omega)];rfl) (fun j _=>X _) o p).mono ?_;rintro e w' ⟨rfl,rfl⟩;obtain⟨N,Y,k2,M⟩:=cI g [aA t] (0+l.length) w cur _ _ F;refine⟨some (cA g 0),l.length+1,c,rfl,?_,iA.setCells (S:=fun k=>(Value.slice (some (cA g 0)) l.length c).ownBlock=some k) (iA.refl _ _) (fun _=>rfl) _ _,fun g' q=> .inl q⟩;refine d _ g N c hBg Y b UC (by omega) (fun k x=>?_);rw[M k (by omega)];by_cases n:k<l.length
    ·rw[if_neg (by simp;omega),if_pos n,y k n]
    ·rw[if_pos (by simp;omega),if_neg n,if_pos (by omega),show k-(0+l.length)=0 by omega];rfl
   ·refine(Any2.slices_Insert_int_end_grow xP (some (cA g 0)) l.length c vb 0 1 1 (kI.cells l) [aA t] w (by omega) qD (by omega) (by omega) (eH l) rfl (fun e=>by cases e) (fun a R j u D=>by injection R with R;subst R;rw[Addr.add_lit];exact L j u D) o p).mono ?_;rintro e w' ⟨rfl,rfl⟩;refine⟨some ⟨w.heap.size,0,none⟩,l.length+1,grownCap w (l.length+1) c 3,rfl,?_,iA.alloc (iA.drew (iA.refl _ _)) _,fun g q=> .inr (by simp[Value.ownBlock] at q;omega)⟩;exact d _ w.heap.size _ _ hB (heap_alloc_new w.drew _) (s c) (r c) (by have:=s c;simp[E,eH,show oS.t 3=3 from rfl];omega) (fun k x=>H _ k x rfl)
  ·have I:i<l.length:=(by omega);by_cases b:l.length+1<=c
   ·refine(Any2.slices_Insert_int_shift xP g 0 l.length c i vb 0 1 1 (kI.cells l) [aA t] w I (by omega) b (by unfold maxLen at UC;omega) a0 (eH l) rfl L (fun j D=>by rw[z,Array.getElem?_eq_getElem (by omega)];rfl) (fun j _=>X _) o O p 3 3 1 c (by simp[World.shape?,hb]) (by simp[World.shape?,Z,T]) (by omega) (by simp[World.frozen?,hb]) (by simp[World.frozen?,hb])).mono ?_;rintro e w' ⟨rfl,rfl⟩;obtain⟨N,Y,k2,M⟩:=cI g ((kI.cells l).drop i) (0+(i+1)) w.drew cur _ _ F;obtain⟨c2,m1,m2,m3⟩:=cI g [aA t] (0+i) _ N _ _ Y;refine⟨some (cA g 0),l.length+1,c,rfl,?_,iA.setCells (S:=fun k=>(Value.slice (some (cA g 0)) l.length c).ownBlock=some k) (iA.setCells (S:=fun k=>(Value.slice (some (cA g 0)) l.length c).ownBlock=some k) (iA.drew (iA.refl _ _)) (fun _=>rfl) _ _) (fun _=>rfl) _ _,fun g' q=> .inl q⟩;refine d _ g c2 c hBg m1 b UC (by omega) (fun k x=>?_);rw[m3 k (by omega)];by_cases n:k<i
    ·rw[if_neg (by simp;omega),if_pos n,M k (by omega),if_neg (by omega),y k (by omega)]
    ·rw[if_neg n];by_cases K:k=i
     ·rw[if_pos (by simp;omega),if_pos K,show k-(0+i)=0 by omega];rfl
     ·rw[if_neg (by simp;omega),if_neg K,M k (by omega),if_pos (by rw[List.length_drop,eH];omega),List.getElem?_drop,show i+(k-(0+(i+1)))=k-1 by omega]
   ·refine(Any2.slices_Insert_int_grow xP g 0 l.length c i vb 0 1 1 (kI.cells l) [aA t] w I (by omega) qD (by omega) (by omega) (eH l) rfl L o O p).mono ?_;rintro e w' ⟨rfl,rfl⟩;obtain⟨G,hG⟩:∃G,G=grownCap w (l.length+1) c 3:=⟨_,rfl⟩;have J:=s c;have A:=r c;simp only[show oS.t 3=3 from rfl];rw[<-hG] at J A|-;obtain⟨f,C⟩:∃f,f=((kI.cells l).take i).toArray++Builtin.zeroCells (Value.int .i64 0).cells (l.length+1-i)++Builtin.zeroCells (Value.int .i64 0).cells (G-(l.length+1)):=⟨_,rfl⟩;rw[<-C];have a4:f.size=G:=by
     rw[C];simp[E,eH];omega
    have a1:∀k,k<i->f[k]? = (kI.cells l)[k]?:=by
     intro k x;rw[C,Array.getElem?_append_left (by simp[E,eH];omega),Array.getElem?_append_left (by simp[eH];omega),List.getElem?_toArray,List.getElem?_take,if_pos x]
    have a2:(w.alloc (.cells f 3)).drew.heap[w.heap.size]? = some (.cells f 3 (0,0)):=heap_alloc_new w _;obtain⟨N,Y,k2,M⟩:=cI w.heap.size [aA t] i _ f _ _ a2;have a3:((w.alloc (.cells f 3)).drew.setCells w.heap.size i [aA t]).drew.heap[w.heap.size]? = some (.cells N 3 (0,0)):=Y;obtain⟨c2,m1,m2,m3⟩:=cI w.heap.size ((kI.cells l).drop i) (i+1) _ N _ _ a3;refine⟨some ⟨w.heap.size,0,none⟩,l.length+1,G,rfl,?_,?_,fun g q=> .inr (by simp[Value.ownBlock] at q;omega)⟩
    ·refine d _ w.heap.size c2 G hB m1 J A (by omega) (fun k x=>?_);rw[m3 k (by omega)];by_cases n:k<i
     ·rw[if_neg (by omega),if_pos n,M k (by omega),if_neg (by simp;omega),a1 k n]
     ·rw[if_neg n];by_cases K:k=i
      ·rw[if_neg (by omega),if_pos K,M k (by omega),if_pos (by simp;omega),show k-i=0 by omega];rfl
      ·rw[if_pos (by rw[List.length_drop,eH];omega),if_neg K,List.getElem?_drop,show i+(k-(i+1))=k-1 by omega]
    ·exact iA.setCells (iA.drew (iA.setCells (iA.drew (iA.alloc (iA.refl _ _) _)) (fun e=>absurd e (by omega)) _ _)) (fun e=>absurd e (by omega)) _ _
end P5
set_option linter.unusedVariables false
set_option linter.unusedSimpArgs false
set_option maxRecDepth 100000
open Go.RowKit
abbrev lF(r:P5.Rc)(A:Option Addr)(n c:Nat):Array Value:=#[.int .i64 r.op,.int .i64 r.id,.int .i64 r.par,.int .i64 r.ZA,.string r.tag,.string r.txt,.string r.key,.slice A n c]
abbrev bB(x:P5.Nd)(A:Option Addr)(n c:Nat)(A2:Option Addr)(n2 c2:Nat):Array Value:=#[.int .i64 x.id,.int .i64 x.par,.string x.tag,.string x.txt,.string x.key,.slice A n c,.slice A2 n2 c2,.int .i64 x.note]
namespace P1
open Go.RowKit
theorem eN(s:qA)(w:World):jA 129 #[bA s] w fun e w'=>e= .returned (.bool (dC s.data.toList))/\w=w':=by
 cases h1:(s.toList==[98,114])
 ·cases h2:(s.toList==[104,114])
  ·cases h3:(s.toList==[105,109,103])
   ·cases h4:(s.toList==[105,110,112,117,116])
    all_goals
     go_enter func129,ntmps129;go_wp2_with fail;go_ret;exact⟨WC (WQ (by simp[h1,h2,h3,h4])),rfl⟩
   ·go_enter func129,ntmps129;go_wp2_with fail
    all_goals (go_ret;exact⟨WC (WQ (by simp[h1,h2,h3])),rfl⟩)
  ·go_enter func129,ntmps129;go_wp2_with fail
   all_goals (go_ret;exact⟨WC (WQ (by simp[h1,h2])),rfl⟩)
 ·go_enter func129,ntmps129;go_wp2_with fail
  all_goals (go_ret;exact⟨WC (WQ (by simp[h1])),rfl⟩)
end P1
namespace P5
open Go.RowKit Kd P4
variable{B p:Nat}{x:Dx}
theorem wD.c1{w:World}{r:Rw}(h:wD w B r):w.cell? ⟨r.b,1,none⟩=some (aA r.nd.par):=h.cell 1
theorem wD.c2{w:World}{r:Rw}(h:wD w B r):w.cell? ⟨r.b,2,none⟩=some (bA r.nd.tag):=h.cell 2
theorem wD.c3{w:World}{r:Rw}(h:wD w B r):w.cell? ⟨r.b,3,none⟩=some (bA r.nd.txt):=h.cell 3
theorem wD.c5{w:World}{r:Rw}(h:wD w B r):w.cell? ⟨r.b,5,none⟩=some r.va.val:=h.cell 5
theorem wD.c6{w:World}{r:Rw}(h:wD w B r):w.cell? ⟨r.b,6,none⟩=some r.vk.val:=h.cell 6
theorem wD.c7{w:World}{r:Rw}(h:wD w B r):w.cell? ⟨r.b,7,none⟩=some (aA r.nd.note):=h.cell 7
theorem lG(y:Int){k:Nat}{b:Nat}(w:World)(hk:k<x.rs.length)(hy:x.rs[k].nd.id=y)(hb:x.rs[k].b=b)(h:Dc w B p x):
 jA 71 #[lA p,aA y] w fun e w'=>e= .returned (lA b)/\fA w w':=by
 have H:=Zh h;have c:=Zh hy;have d:=Zh hb;have g:=h.c0;clear h hy hb;go_enter func71,ntmps71;go_wp2_with fail;refine(DI y k (x:=b) w (l:=x.rs.map pB) (by simpa using hk) (by simp[pB,c.out]) (by simp[pB,d.out]) H.ar).mono ?_;rintro e i ⟨rfl,a⟩;have f:=Zh a;clear a;go_wp2_with fail;go_ret;exact⟨rfl,f⟩
theorem FC(y:Int){r:Bool}(w:World)(hr:nA x.l y=r)(h:Dc w B p x):
 jA 44 #[lA p,aA y] w fun e w'=>e= .returned (.bool r)/\fA w w':=by
 have H:=Zh h;have m:=h.c0;cases r with
 |false=>
  have f:=Zh hr;clear h hr;go_enter func44,ntmps44;go_wp2_with fail;refine(bP y w (by rw[H.out.lN];exact f) H.ar).mono ?_;rintro e g ⟨rfl,a⟩;have c:=Zh a;clear a;go_wp2_with fail;go_ret;exact⟨rfl,c⟩
 |true=>
  obtain⟨k,i,d,_⟩:=h.place hr;have j:=Zh d;clear h hr d;go_enter func44,ntmps44;go_wp2_with fail;refine(DI y k (x:=x.rs[k].b) w (l:=x.rs.map pB) (by simpa using i) (by simp[pB,j.out]) (by simp[pB]) H.ar).mono ?_;rintro e g ⟨rfl,a⟩;have c:=Zh a;clear a;go_wp2_with fail;go_ret;exact⟨rfl,c⟩
theorem iI{m:Int}(w:World)(hn:x.n<=100000)(hm:m=x.n+1)(h:Dc w B p x):jA 16 #[lA p] w fun e w'=>e= .returned (aA m)/\w=w':=by
 have H:=Zh h;have a:=Zh hm;have b:=h.c0;clear h hm;go_enter func16,ntmps16;go_wp2_with fail;refine PA (ui w hn a H.ar) ?_;go_wp2_with fail;go_ret;exact⟨rfl,rfl⟩
theorem LO(w:World)(h:Dc w B p x):jA 17 #[lA p] w fun e w'=>e= .returned (aA x.nB)/\w=w':=by
 have a:=h.c2;clear h;go_enter func17,ntmps17;go_wp2;go_ret;exact⟨rfl,rfl⟩
theorem X4{m:Nat}(w:World)(hm:x.rs.length=m)(h:Dc w B p x):jA 36 #[lA p] w fun e w'=>e= .returned (aA ((x.R:Int)-m))/\fA w w':=by
 have H:=Zh h;have c:=Zh hm;have g:=h.c0;have i:m<=x.R:=(by have:=h.ar.len;simp at this;omega);have j:=h.ar.room;have a:∀n,jA 73 #[lA x.a] (w.drewN n) fun e w'=>e= .returned (aA x.R)/\∃k,w'=w.drewN k:=
  fun n=>(wi (w.drewN n) (H.drewN n).ar).mono fun _ _ ⟨he,hw⟩=>⟨he,n,hw.symm⟩
 have b:∀n,jA 74 #[lA x.a] (w.drewN n) fun e w'=>e= .returned (aA m)/\∃k,w'=w.drewN k:=
  fun n=>(ti (w.drewN n) (by simp[c.out]) (H.drewN n).ar).mono fun _ _ ⟨he,hw⟩=>⟨he,n,hw.symm⟩
 have d:=Zh a;have f:=Zh b;clear h hm a b;go_enter func36,ntmps36;go_wp2_with fail;go_quiet ((first|(go_at_call 73;exact d _)|(go_at_call 74;exact f _)));go_wp2_with fail;go_ret;exact⟨aP (by first|rfl|(rw[IntKind.wrap_i64];omega)),OC Ze _⟩
theorem UE{v:Value}{w:World}{l:List Int}{A:vA}{n c:Nat}(h:kI.Own w B v l)(hv:v= .slice A n c):l.length=n/\n<=c/\c<=maxLen/\(A=none->c=0/\n=0)/\kI.AA w w.heap.size A l:=by
 subst hv;obtain⟨i,j,k,hv,a,b,d,f,g⟩:=h.slice;injection hv with e1 e2 e3;subst e1;subst e2;subst e3;exact⟨a,b,d,fun e=>by have:=f e;omega,g⟩
theorem zR(w:World)(hn:x.rs.length<=1000)(h:Dc w B p x):jA 15 #[lA p] w (ZR kI w (MA x.l)):=by
 have k:=h.c1;obtain⟨A,n,c,a,_⟩:=h.ids.slice;obtain⟨b,l,m,f,g⟩:=UE h.ids a;have d:n<=1000000:=(by rw[<-b];simp[MA,Dx.l];omega);have o:=Zh b;have q:=Zh f;have r:=Zh g;rw[a] at k;clear h b l m f g a;go_enter func15,ntmps15;go_wp2_with fail;refine(nQ (MA x.l) A n c w o d q r).mono ?_;rintro e v ⟨y,z,s,rfl,i,j⟩;have t:=Zh i;have u:=Zh j;clear i j;go_wp2_with fail;go_ret;exact⟨_,_,_,rfl,t,u⟩
def Told(w:World)(nd:Nd)(e:Ending)(w':World):Prop:=
 ∃A n c A2 n2 c2,e= .returned (.agg (bB nd A n c A2 n2 c2))/\ZB w' ⟨A,n,c⟩ nd.attrs/\kI.Own w' w.heap.size (.slice A2 n2 c2) nd.kids/\fA w w'
theorem Qq{w w2 wf:World}{nd:Nd}{A A2:vA}{n c n2 c2:Nat}{C D:Nat}(hB:fA w w2)(hA:kA.Own w2 C (.slice A n c) nd.attrs)(hK:kI.Own w2 D (.slice A2 n2 c2) nd.kids)(hC:w.heap.size+1<C)(hD:w.heap.size+1<D)
 (hb:iA (fun k=>k=w.heap.size\/k=w.heap.size+1) w2 wf):Told w nd (.returned (.agg (bB nd A n c A2 n2 c2))) wf:=by
 have d:kA.Own wf C (.slice A n c) nd.attrs:=hA.but hb (fun g a h=>by have:=(hA.lt a).1;omega);have e:kI.Own wf D (.slice A2 n2 c2) nd.kids:=hK.but hb (fun g a h=>by have:=(hK.lt a).1;omega);obtain⟨s,b,f⟩:=ZB.own d;obtain⟨j,l,m⟩:=s;simp only[Sv.val,Value.slice.injEq] at b;obtain⟨rfl,rfl,rfl⟩:=b;exact⟨_,_,_,_,_,_,rfl,f,e.dE dA,hB.trans (hb.eD (fun i _ o=>by omega) hB.size)⟩
theorem jP(nd:Nd){A A2:vA}{n c n2 c2:Nat}(w:World)(ha:ZB w ⟨A,n,c⟩ nd.attrs)(hal:nd.attrs.length<=1000)(hkl:nd.kids.length<=1000)(hk:kI.Own w B (.slice A2 n2 c2) nd.kids):
 jA 41 #[.agg (bB nd A n c A2 n2 c2)] w (Told w nd):=by
 obtain⟨Q,Z,h3,R,S⟩:=UE hk rfl;have G:=ha.len;have T:=ha.cap;have H:=ha.nil;simp only at G T H;have I:n2<=1000000:=dA;have hn:n<=1000000:=dA;have HA:=Zh ha;have H1:=Zh Q;have H4:=Zh R;have H5:=Zh S;have A1:=Zh G;have A4:Hid (A=none->c=0/\n=0):=Zh (fun e=>by have:=H e;omega);clear Q Z h3 R S G T H ha hk hal hkl;go_enter func41,ntmps41;go_wp2_with fail;have y:Hid (fA w ((w.alloc (.cells (bB nd A n c A2 n2 c2) 53)).alloc (.cells oE 53))):=Zh ((Zb _ _).alloc FA _);have z:Hid (((w.alloc (.cells (bB nd A n c A2 n2 c2) 53)).alloc (.cells oE 53)).heap[w.heap.size]? = some (.cells (bB nd A n c A2 n2 c2) 53 (0,0))):=Zh (JB (heap_alloc_new w _));have C:Hid (((w.alloc (.cells (bB nd A n c A2 n2 c2) 53)).alloc (.cells oE 53)).heap[w.heap.size+1]? = some (.cells oE 53 (0,0))):=Zh (by have:=heap_alloc_new (w.alloc (.cells (bB nd A n c A2 n2 c2) 53)) (.cells oE 53);simpa using this);generalize ((w.alloc (.cells (bB nd A n c A2 n2 c2) 53)).alloc (.cells oE 53))=W at y z C|-;have m:w.heap.size<W.heap.size:=JA z;have o:w.heap.size+1<W.heap.size:=JA C;refine(uT nd.attrs A n c W A1 hn A4 (by exact((HA.below y).holds))).mono ?_;rintro e j ⟨b,d,f,rfl,U,D⟩;have J:=Zh U;have V:=Zh (y.trans (D.mono y.size));have q:Hid (j.heap[w.heap.size]? = _):=Zh ((D.block _ m).trans z);have X:Hid (j.heap[w.heap.size+1]? = _):=Zh ((D.block _ o).trans C);have d5:=iB 5 q;have d6:=iB 6 q;have f5:j.frozen? ⟨w.heap.size,5,none⟩=false:=(by have r:=q.out;simp[World.frozen?,r]);clear U D z C;go_wp2_with fail;have E:Hid ((j.setCell ⟨w.heap.size,5,none⟩ (.slice b d f)).heap[w.heap.size]? = some (.cells (bB nd b d f A2 n2 c2) 53 (0,0))):=Zh (heap_set q 5 _);have F:Hid ((j.setCell ⟨w.heap.size,5,none⟩ (.slice b d f)).heap[w.heap.size+1]? = _):=Zh ((Below.heap_setCell _ _ _ _ (by show w.heap.size+1≠w.heap.size;omega)).trans X);have s:Hid (fA w (j.setCell ⟨w.heap.size,5,none⟩ (.slice b d f))):=Zh (V.setCell (p:=⟨w.heap.size,5,none⟩) Zl _);have K:Hid (kA.Own (j.setCell ⟨w.heap.size,5,none⟩ (.slice b d f)) W.heap.size (.slice b d f) nd.attrs):=Zh (J.VB fun g hg=>Below.heap_setCell _ _ _ _ (by have:=(J.lt hg).1;show g≠w.heap.size;omega));generalize j.setCell ⟨w.heap.size,5,none⟩ (.slice b d f)=L at E F s K|-;clear d5 d6 f5 q X V J;refine(nQ nd.kids A2 n2 c2 L H1 I H4 (H5.on s)).mono ?_;rintro e a ⟨M,N,O,rfl,Y,t⟩;have u:w.heap.size<L.heap.size:=JA E;have x:w.heap.size+1<L.heap.size:=JA F;have O2:=Zh Y;have OA:=Zh (K.below t Zl);have B2:=Zh (s.trans (t.mono s.size));have l:Hid (a.heap[w.heap.size]? = _):=Zh ((t.block _ u).trans E);have k:Hid (a.heap[w.heap.size+1]? = _):=Zh ((t.block _ x).trans F);have P:w.heap.size+1<a.heap.size:=JA k;have e0:=iB 0 l;have e1:=iB 1 l;have e2:=iB 2 l;have e3:=iB 3 l;have e4:=iB 4 l;have e5:=iB 5 l;have e6:=iB 6 l;have e7:=iB 7 l;have g6:a.frozen? ⟨w.heap.size,6,none⟩=false:=(by have r:=l.out;simp[World.frozen?,r]);have r0:=iB 0 k;have r1:=iB 1 k;have r2:=iB 2 k;have r3:=iB 3 k;have r4:=iB 4 k;have r5:=iB 5 k;have r6:=iB 6 k;have r7:=iB 7 k
 have rf:∀i,a.frozen? ⟨w.heap.size+1,i,none⟩=false:=fun i=>by have r:=k.out;simp[World.frozen?,r]
 clear Y t E F s K u m;go_wp2_with fail;refine bodyPost_ret (v:=.agg (bB nd b d f M N O)) (by simp[results,results41,go_sem,e0,e1,e2,e3,e4,e5,e6,e7,r0,r1,r2,r3,r4,r5,r6,r7,P]) rfl ?_;refine Qq B2 OA O2 o x ?_;exact iA.setCell (iA.setCell (iA.setCell (iA.setCell (iA.setCell (iA.setCell (iA.setCell (iA.setCell (iA.setCell (iA.refl _ _) (fun _=> .inl rfl) _) (fun _=> .inr rfl) _) (fun _=> .inr rfl) _) (fun _=> .inr rfl) _) (fun _=> .inr rfl) _) (fun _=> .inr rfl) _) (fun _=> .inr rfl) _) (fun _=> .inr rfl) _) (fun _=> .inr rfl) _
theorem mA{a w:World}{g i:Nat}{u:Value}(h:iA (fun k=>k=g) a w):iA (fun k=>k=g) a (w.setCell (cA g i) u):=iA.setCell h (fun _=>rfl) u
theorem rF{w w2 wf:World}(hB:fA w w2)(hb:iA (fun k=>k=w.heap.size) w2 wf):fA w wf:=hB.trans (hb.eD (fun i _ a=>by omega) hB.size)
theorem eV(y:Int)(w:World)(hy:nA x.l y=false)(h:Dc w B p x):jA 18 #[lA p,aA y] w fun e w'=>e= .returned (.tuple #[.agg oE,.bool false])/\fA w w':=by
 have H:=Zh h;have f:=Zh hy;have u:=h.c0;have g:=h.lt (.inl rfl:fC p x p);clear h hy;go_enter func18,ntmps18;go_wp2_with fail;refine(bP y _ (by rw[H.out.lN];exact f) (H.alloc _).ar).mono ?_;rintro e b ⟨rfl,c⟩;have j:=Zh ((((Below.refl _ w).alloc Zl _)).trans (c.mono FA));have a:Hid (b.heap[w.heap.size]? = some (.cells oE 53 (0,0))):=Zh ((c.block _ FA).trans (heap_alloc_new w _));have d:w.heap.size<b.heap.size:=JA a;have k:=iB 0 a;have l:=iB 1 a;have m:=iB 2 a;have n:=iB 3 a;have o:=iB 4 a;have q:=iB 5 a;have r:=iB 6 a;have s:=iB 7 a;have z:∀i,b.frozen? ⟨w.heap.size,i,none⟩=false:=fun i=>by have t:=a.out;simp[World.frozen?,t]
 clear c;go_wp2_with fail;refine bodyPost_ret (v:=.tuple #[.agg oE,.bool false]) (by simp[results,results18,go_sem,k,l,m,n,o,q,r,s,d]) rfl ⟨rfl,rF j ?_⟩;exact mA (mA (mA (mA (mA (mA (mA (mA (iA.refl _ _))))))))
def QP(w:World)(nd:Nd)(e:Ending)(w':World):Prop:=
 ∃A n c A2 n2 c2,e= .returned (.tuple #[.agg (bB nd A n c A2 n2 c2),.bool true])/\ZB w' ⟨A,n,c⟩ nd.attrs/\kI.Own w' w.heap.size (.slice A2 n2 c2) nd.kids/\fA w w'
theorem Y4{w w2 wf:World}{nd:Nd}{A A2:vA}{n c n2 c2:Nat}{D:Nat}(hB:fA w w2)(hD:w.heap.size<D)(hA:ZB w2 ⟨A,n,c⟩ nd.attrs)(hK:kI.Own w2 D (.slice A2 n2 c2) nd.kids)
 (hz:∃cur,w2.heap[w.heap.size]? = some (.cells cur 53 (0,0))) (hb:iA (fun k=>k=w.heap.size) w2 wf):QP w nd (.returned (.tuple #[.agg (bB nd A n c A2 n2 c2),.bool true])) wf:=by
 obtain⟨cur,a⟩:=hz;refine⟨_,_,_,_,_,_,rfl,hA.but hb ?_,(hK.but hb (fun g b e=>by have:=(hK.lt b).1;omega)).dE dA,rF hB hb⟩;rintro k c f rfl d;exact WA a d pA rfl
theorem VL(y:Int){k:Nat}{nd:Nd}(w:World)(hk:k<x.rs.length)(hy:x.rs[k].nd.id=y)(hn:x.rs[k].nd=nd)(hal:nd.attrs.length<=1000)(hkl:nd.kids.length<=1000)(h:Dc w B p x):
 jA 18 #[lA p,aA y] w (QP w nd):=by
 have H:=Zh h;have j:=h.nd hk;obtain⟨b,s⟩:=DA (x.rs[k].b);have R:=Zh hy;have S:=Zh s;have c0:=h.c0;have T:=h.lt (.inl rfl:fC p x p);have N:Hid (∃A n c z C D,w.heap[b]? = some (.cells #[aA nd.id,aA nd.par,bA nd.tag,bA nd.txt,bA nd.key,.slice A n c,.slice z C D,aA nd.note] 53 (0,0))/\ZB w ⟨A,n,c⟩ nd.attrs/\kI.Own w B (.slice z C D) nd.kids):=Zh (by
  subst hn;subst s;exact⟨_,_,_,_,_,_,j.zA,j.mC,j.kids⟩)
 obtain⟨A,n,c,z,C,D,m,o,g⟩:=N.out;have O:=Zh m;have U:=Zh o;have V:=Zh g;clear h hy hn s j N m o g;go_enter func18,ntmps18;go_wp2_with fail;refine(DI y k (x:=b) _ (l:=x.rs.map pB) (by simpa using hk) (by simp[pB,R.out]) (by simp[pB,S.out]) (H.out.alloc _).ar).mono ?_;rintro e d ⟨rfl,E⟩;have t:=Zh ((((Below.refl _ w).alloc Zl (.cells #[aA 0,aA 0,bA ⟨#[]⟩,bA ⟨#[]⟩,bA ⟨#[]⟩,.slice none 0 0,.slice none 0 0,aA 0] 53))).trans (E.mono (by simp)));have q:Hid (d.heap[b]? = _):=Zh ((t.out.block b (JA O.out)).trans O.out);have r:Hid (d.heap[w.heap.size]? = some (.cells #[aA 0,aA 0,bA ⟨#[]⟩,bA ⟨#[]⟩,bA ⟨#[]⟩,.slice none 0 0,.slice none 0 0,aA 0] 53 (0,0))):=Zh ((E.block _ (by simp)).trans (heap_alloc_new w _));have u:w.heap.size<d.heap.size:=JA r.out;have e0:d.cell? (cA b 0)=some (aA nd.id):=cell_of_row d _ 0 _ _ (0,0) q.out;have W:d.cell? (cA b 1)=some (aA nd.par):=cell_of_row d _ 1 _ _ (0,0) q.out;have X:d.cell? (cA b 2)=some (bA nd.tag):=cell_of_row d _ 2 _ _ (0,0) q.out;have Y:d.cell? (cA b 3)=some (bA nd.txt):=cell_of_row d _ 3 _ _ (0,0) q.out;have Z:d.cell? (cA b 4)=some (bA nd.key):=cell_of_row d _ 4 _ _ (0,0) q.out;have e5:d.cell? (cA b 5)=some (.slice A n c):=cell_of_row d _ 5 _ _ (0,0) q.out;have e6:d.cell? (cA b 6)=some (.slice z C D):=cell_of_row d _ 6 _ _ (0,0) q.out;have e7:d.cell? (cA b 7)=some (aA nd.note):=cell_of_row d _ 7 _ _ (0,0) q.out;clear E;go_wp2_with fail;refine(jP (B:=B) nd d (U.out.below t.out) hal hkl (V.out.below t.out Zl)).mono ?_;rintro e f ⟨A',n',c',F,G,I,rfl,P,Q,J⟩;have B2:=Zh (t.out.trans (J.mono t.out.size));have a:Hid (f.heap[w.heap.size]? = some (.cells #[aA 0,aA 0,bA ⟨#[]⟩,bA ⟨#[]⟩,bA ⟨#[]⟩,.slice none 0 0,.slice none 0 0,aA 0] 53 (0,0))):=Zh ((J.block _ u).trans r.out);have K:=Zh P;have L:=Zh Q;have M:w.heap.size<f.heap.size:=JA a.out;have r0:f.cell? ⟨w.heap.size,0,none⟩=some (aA 0):=cell_of_row f _ 0 _ _ (0,0) a.out;have r1:f.cell? ⟨w.heap.size,1,none⟩=some (aA 0):=cell_of_row f _ 1 _ _ (0,0) a.out;have r2:f.cell? ⟨w.heap.size,2,none⟩=some (bA ⟨#[]⟩):=cell_of_row f _ 2 _ _ (0,0) a.out;have r3:f.cell? ⟨w.heap.size,3,none⟩=some (bA ⟨#[]⟩):=cell_of_row f _ 3 _ _ (0,0) a.out;have r4:f.cell? ⟨w.heap.size,4,none⟩=some (bA ⟨#[]⟩):=cell_of_row f _ 4 _ _ (0,0) a.out;have r5:f.cell? ⟨w.heap.size,5,none⟩=some (.slice none 0 0):=cell_of_row f _ 5 _ _ (0,0) a.out;have r6:f.cell? ⟨w.heap.size,6,none⟩=some (.slice none 0 0):=cell_of_row f _ 6 _ _ (0,0) a.out;have r7:f.cell? ⟨w.heap.size,7,none⟩=some (aA 0):=cell_of_row f _ 7 _ _ (0,0) a.out;have rf:∀i,f.frozen? ⟨w.heap.size,i,none⟩=false:=fun i=>by have s:=a.out;simp[World.frozen?,s]
 clear P Q J e0 W X Y Z e5 e6 e7;go_wp2_with fail;refine bodyPost_ret (v:=.tuple #[.agg #[aA nd.id,aA nd.par,bA nd.tag,bA nd.txt,bA nd.key,.slice A' n' c',.slice F G I,aA nd.note],.bool true]) (by simp[results,results18,go_sem,r0,r1,r2,r3,r4,r5,r6,r7,M]) rfl ?_;refine Y4 B2.out u K.out L.out ⟨_,a.out⟩ ?_;exact mA (mA (mA (mA (mA (mA (mA (mA (iA.refl _ _))))))))
end P5
namespace P5
open Go.RowKit Kd
def QA(c:Int):Value:=if c=0 then .nilIface else .iface 29 (aA c)
end P5
namespace P5
open Go.RowKit Kd P4
variable{B p:Nat}{x:Dx}
theorem Dc.re{w w':World}(h:Dc w B p x){v' vi':Value}{n' foc':Int}{rs':List Rw}
 (hb:iA (fun g=>g=p\/cE x.a x.v g\/x.vi.ownBlock=some g) w w')
 (zA:w'.heap[p]? = some (.cells #[lA x.a,vi',aA foc'] 91 (0,0)))
 (ar:YB w' B x.a x.R n' v' (rs'.map pB)) (ids:kI.Own w' B vi' (MA (rs'.map (·.nd))))
 (hv:∀g,v'.ownBlock=some g->x.v.ownBlock=some g\/w.heap.size<=g) (hvi:∀g,vi'.ownBlock=some g->x.vi.ownBlock=some g\/w.heap.size<=g)
 (nodes:∀r∈rs',r∈x.rs\/wD w' B r/\w.heap.size<=r.b/\(∀g,r.vk.val.ownBlock=some g->w.heap.size<=g)/\dF vi' r.vk.val)
 (pw:rs'.Pairwise fun r s=>r.b≠s.b/\dF r.vk.val s.vk.val):aC w B p x ⟨x.a,v',vi',x.R,n',foc',rs'⟩ w':=by
 have l:∀g,(g=p\/cE x.a x.v g\/x.vi.ownBlock=some g)->fC p x g:=by
  rintro g (e|(e|e)|e)
  ·exact .inl e
  ·exact .inr (.inl e)
  ·exact .inr (.inr (.inl e))
  ·exact .inr (.inr (.inr (.inl e)))
 have j:vC w (fun g=>g=p\/cE x.a x.v g\/x.vi.ownBlock=some g):=fun g c f a=>h.QE g c f (l g a)
 have m:∀r∈x.rs,w'.heap[r.b]? = w.heap[r.b]?:=by
  intro r b;have i:=h.nodes r b;refine hb.block _ i.lt ?_;rintro(e|e|e)
  ·exact WA i.zA (e▸h.zA) pA rfl
  ·exact h.ar.other i.zA pA pA e
  ·obtain⟨d,n⟩:=h.ids.ty e;exact WA i.zA n pA rfl
 have o:∀r∈x.rs,∀g,r.vk.val.ownBlock=some g->w'.heap[g]? = w.heap[g]?:=by
  intro r b g a;have i:=h.nodes r b;obtain⟨c,k⟩:=i.kids.ty a;refine hb.block _ (JA k) ?_;rintro(e|e|e)
  ·exact WA k (e▸h.zA) pA rfl
  ·exact h.ar.other k pA pA e
  ·exact h.WH r b g e a
 refine⟨⟨zA,h.base,ar,ids,fun r b=>?_,fun r b=>?_,pw⟩,hb.mono fun g _ a=>l g a,fun g a=>?_⟩
 ·rcases nodes r b with h1|h1
  ·exact(h.nodes r h1).VB (m r h1) (o r h1) ((h.nodes r h1).mC.but hb j)
  ·exact h1.1
 ·rcases nodes r b with h1|h1
  ·intro g a e;rcases hvi g a with e2|e2
   ·exact h.WH r h1 g e2 e
   ·have:=((h.nodes r h1).kids.lt e).2;omega
  ·exact h1.2.2.2
 ·rcases a with e|e|e|e|⟨r,b,e⟩
  ·exact .inl (.inl e)
  ·exact .inl (.inr (.inl e))
  ·rcases hv g e with e2|e2
   ·exact .inl (.inr (.inr (.inl e2)))
   ·exact .inr e2
  ·rcases hvi g e with e2|e2
   ·exact .inl (.inr (.inr (.inr (.inl e2))))
   ·exact .inr e2
  ·rcases nodes r b with h1|h1
   ·exact .inl (.inr (.inr (.inr (.inr ⟨r,h1,e⟩))))
   ·rcases e with e|e
    ·exact .inr (by rw[e];exact h1.2.1)
    ·exact .inr (h1.2.2.1 g e)
theorem Dc.zV{w:World}(h:Dc w B p x)(i:Int):aC w B p x {x with nB:=i} (w.setCell (cA p 2) (aA i)):=by
 have c:iA (fun g=>g=p\/cE x.a x.v g\/x.vi.ownBlock=some g) w (w.setCell (cA p 2) (aA i)):=iA.setCell (iA.refl _ _) (fun _=> .inl rfl) _;refine h.re (v':=x.v) (vi':=x.vi) (n':=x.n) (foc':=i) (rs':=x.rs) c (heap_set h.zA 2 _) ?_ ?_ (fun g a=> .inl a) (fun g a=> .inl a) (fun r e=> .inl e) h.pw
 ·refine h.ar.VB (Below.heap_setCell _ _ _ _ (WA h.ar.zA h.zA pA)) (fun g a=>Below.heap_setCell _ _ _ _ ?_);rintro rfl;obtain⟨d,b⟩:=h.ar.own.ty a;exact WA b h.zA pA rfl
 ·refine h.ids.VB (fun g a=>Below.heap_setCell _ _ _ _ ?_);rintro rfl;obtain⟨d,b⟩:=h.ids.ty a;exact WA b h.zA pA rfl
theorem AR{w:World}{C g:Nat}{v:Value}{l:List Int}{cur:Array Value}{t:TypeId}{fr:Nat×Nat}(h:kI.Own w C v l)(hg:w.heap[g]? = some (.cells cur t fr))(ht:t≠3):some g≠v.ownBlock:=fun e=>by
 obtain⟨d,a⟩:=h.ty e.symm;exact WA hg a ht rfl
def Made(w:World)(B p:Nat)(x:Dx)(r:Value)(d:D)(e:Ending)(w':World):Prop:=e= .returned r/\∃x',aC w B p x x' w'/\x'.d=d
theorem Made.same{w w':World}{r r':Value}{d:D}(h:Dc w B p x)(hb:fA w w')(hr:r=r')(hd:x.d=d):Made w B p x r' d (.returned r) w':=⟨by rw[hr],x,aC.SF h hb,hd⟩
variable{B p:Nat}{x:Dx}
theorem oQ(i:Int)(w:World)(h:Dc w B p x):jA 21 #[lA p,aA i] w (Made w B p x (QA (gE x.d i).1) (gE x.d i).2):=by
 have H:=Zh h;have j:=h.c2;have k:=h.frozen 2;by_cases a:i=0
 ·have l:(i != 0)=false:=(by simp[a]);have c:Hid (gE x.d i=(0,{x.d with nB:=i})):=Zh (by unfold gE;rw[if_neg (by simp[a])]);clear h a;go_enter func21,ntmps21;go_wp2_with fail;go_ret;rw[c.out];exact⟨rfl,_,H.zV i,rfl⟩
 ·have l:(i != 0)=true:=(by simp[a]);cases hh:nA x.l i with
  |false=>
   have d:=Zh hh;have c:Hid (gE x.d i=(2,x.d)):=Zh (by unfold gE;rw[if_pos ⟨a,hh⟩]);clear h a hh;go_enter func21,ntmps21;go_wp2_with fail;refine(FC i w d H).mono ?_;rintro e m ⟨rfl,b⟩;have f:=Zh b;clear b;go_wp2_with fail;go_ret;rw[c.out];exact Made.same H f rfl rfl
  |true=>
   have d:=Zh hh;have c:Hid (gE x.d i=(0,{x.d with nB:=i})):=Zh (by unfold gE;rw[if_neg (by rintro⟨_,e⟩;rw[show x.d.l=x.l from rfl,hh] at e;cases e)]);clear h a hh;go_enter func21,ntmps21;go_wp2_with fail;refine(FC i w d H).mono ?_;rintro e m ⟨rfl,b⟩;have f:=Zh b;have g:=Zh (H.below b);have n:=g.c2;have o:=g.frozen 2;clear b j k;go_wp2_with fail;go_ret;rw[c.out];exact⟨rfl,_,(aC.SF H f).trans (g.zV i),rfl⟩
theorem gU{w:World}{i:Int}(h:Dc w B p x)(hh:nA x.l i=true):∃k,∃hk:k<x.rs.length,x.rs[k].nd.id=i/\∀(f:Nd->Nd) (r:Rw),r.nd=f x.rs[k].nd->(x.put k r).d = {x.d with l:=mB x.d.l i f}:=by
 obtain⟨k,hk,a,_⟩:=h.place hh;refine⟨k,hk,a,fun f r b=>?_⟩;have:=JP h hk b;rw[a] at this;show D.mk (x.put k r).l _ _ _=D.mk _ _ _ _;rw[this];rfl
theorem sF{w:World}{k:Nat}{i:Int}(h:Dc w B p x)(hk:k<x.rs.length)(hy:x.rs[k].nd.id=i):RA x.l i=x.rs[k].nd.tag/\EA x.l i=x.rs[k].nd.par/\xA x.l i=x.rs[k].nd.kids:=by
 have b:x.rs[k].nd∈x.l:=List.mem_map.2 ⟨x.rs[k],List.getElem_mem hk,rfl⟩;have a:=h.xD.find b;rw[hy] at a;unfold RA EA xA;rw[a];exact⟨rfl,rfl,rfl⟩
theorem fR(i n:Int)(w:World)(h:Dc w B p x):jA 20 #[lA p,aA i,aA n] w (Made w B p x (QA (JE x.d i n).1) (JE x.d i n).2):=by
 have H:=Zh h;have A:=h.c0;cases hh:nA x.l i with
 |false=>
  have v:=Zh hh;have g:Hid (JE x.d i n=(2,x.d)):=Zh (by unfold JE;rw[if_pos (show nA x.d.l i=false from hh)]);clear h hh;go_enter func20,ntmps20;go_wp2_with fail;refine(bP i w (by rw[H.out.lN];exact v) H.ar).mono ?_;rintro e j ⟨rfl,a⟩;have m:=Zh a;clear a;go_wp2_with fail;go_ret;rw[g.out];exact Made.same H m rfl rfl
 |true=>
  obtain⟨k,c,o,q⟩:=gU h hh;have y:=Zh o;have z:=Zh q;have g:Hid (JE x.d i n=(0,{x.d with l:=mB x.d.l i (JL n)})):=Zh (by unfold JE;rw[if_neg (by rw[show x.d.l=x.l from rfl,hh];simp)]);obtain⟨b,s⟩:=DA (x.rs[k].b);have d:=Zh s;clear h hh o q s;go_enter func20,ntmps20;go_wp2_with fail;refine(DI i k (x:=b) w (l:=x.rs.map pB) (by simpa using c) (by simp[pB,y.out]) (by simp[pB,d.out]) H.ar).mono ?_;rintro e j ⟨rfl,a⟩;have f:=Zh (H.below a);have m:=Zh a;have C:j.cell? (cA b 7)=some (aA x.rs[k].nd.note):=(by have:=(f.nd c).c7;rwa[d.out] at this);have D:j.frozen? (cA b 7)=false:=(by have:=(f.nd c).frozen 7;rwa[d.out] at this);clear a;go_wp2_with fail;go_ret;rw[g.out];have t:=f.LP c (r:=⟨x.rs[k].b,x.rs[k].va,x.rs[k].vk,JL n x.rs[k].nd⟩) rfl rfl rfl rfl (f.nd c).mC (i:=7) (u:=aA n) rfl;rw[d.out] at t;exact⟨rfl,_,(aC.SF H m).trans t,z (JL n) _ rfl⟩
theorem Ef(i:Int)(t:qA)(w:World)(ht:t.size<=maxLen)(h:Dc w B p x):jA 193 #[lA p,aA i,bA t] w (Made w B p x (QA (nF x.d i t).1) (nF x.d i t).2):=by
 have H:=Zh h;have K:=h.c0;cases hh:nA x.l i with
 |false=>
  have G:=Zh hh;have o:Hid (nF x.d i t=(2,x.d)):=Zh (by unfold nF;rw[if_pos (show nA x.d.l i=false from hh)]);clear h hh;go_enter func193,ntmps193;go_wp2_with fail;refine(bP i w (by rw[H.out.lN];exact G) H.ar).mono ?_;rintro e j ⟨rfl,c⟩;have q:=Zh c;clear c;go_wp2_with fail;go_ret;rw[o.out];exact Made.same H q rfl rfl
 |true=>
  obtain⟨k,d,v,z⟩:=gU h hh;have a:=(sF h d v).1;obtain⟨tg,f⟩:=DA (x.rs[k].nd.tag);rw[f] at a;have C:=Zh v;have I:=Zh z;have s:=Zh f;obtain⟨b,A⟩:=DA (x.rs[k].b);have m:=Zh A;have n:x.d.l=x.l:=rfl;cases he:tg.toList.isEmpty with
  |false=>
   have g:¬tg.toList=[]:=(by rw[<-List.isEmpty_iff];simp[he]);have J:tg.toList.isEmpty=false:=he;have o:Hid (nF x.d i t=(3,x.d)):=Zh (by unfold nF;rw[if_neg (by rw[n,hh];simp),if_pos (by rw[n,a];exact g)]);clear h hh v z A a f he n;go_enter func193,ntmps193;go_wp2_with fail;refine(DI i k (x:=b) w (l:=x.rs.map pB) (by simpa using d) (by simp[pB,C.out]) (by simp[pB,m.out]) H.ar).mono ?_;rintro e j ⟨rfl,c⟩;have q:=Zh c;have E:j.cell? (cA b 2)=some (bA tg):=(by have:=((H.below c).nd d).c2;rwa[m.out,s.out] at this);clear c;go_wp2_with fail;go_ret;rw[o.out];exact Made.same H q rfl rfl
  |true=>
   have g:tg.toList=[]:=(by rw[<-List.isEmpty_iff];exact he);have L:=Zh g;have J:tg.toList.isEmpty=true:=he;cases hm:P1.yC t.data.toList with
   |false=>
    have o:Hid (nF x.d i t=(1,x.d)):=Zh (by unfold nF;rw[if_neg (by rw[n,hh];simp),if_neg (by rw[n,a];simpa using g),if_pos hm]);have D:=Zh hm;clear h hh v z A a f he n hm;go_enter func193,ntmps193;go_wp2_with fail;refine(DI i k (x:=b) w (l:=x.rs.map pB) (by simpa using d) (by simp[pB,C.out]) (by simp[pB,m.out]) H.ar).mono ?_;rintro e j ⟨rfl,c⟩;have q:=Zh c;have E:j.cell? (cA b 2)=some (bA tg):=(by have:=((H.below c).nd d).c2;rwa[m.out,s.out] at this);clear c;go_wp2_with fail;refine PA (P3.GH t j D ht) ?_;go_wp2_with fail;go_ret;rw[o.out];exact Made.same H q rfl rfl
   |true=>
    have o:Hid (nF x.d i t=(0,{x.d with l:=mB x.d.l i (UJ t)})):=Zh (by unfold nF;rw[if_neg (by rw[n,hh];simp),if_neg (by rw[n,a];simpa using g),if_neg (by simp[hm])]);have D:=Zh hm;clear h hh v z A a f he n hm;go_enter func193,ntmps193;go_wp2_with fail;refine(DI i k (x:=b) w (l:=x.rs.map pB) (by simpa using d) (by simp[pB,C.out]) (by simp[pB,m.out]) H.ar).mono ?_;rintro e j ⟨rfl,c⟩;have q:=Zh c;have y:=Zh (H.below c);have E:j.cell? (cA b 2)=some (bA tg):=(by have:=(y.nd d).c2;rwa[m.out,s.out] at this);have M:j.cell? (cA b 3)=some (bA x.rs[k].nd.txt):=(by have:=(y.nd d).c3;rwa[m.out] at this);have N:j.frozen? (cA b 3)=false:=(by have:=(y.nd d).frozen 3;rwa[m.out] at this);clear c;go_wp2_with fail;refine PA (P3.GH t j D ht) ?_;go_wp2_with fail;go_ret;rw[o.out];have F:=y.LP d (r:=⟨x.rs[k].b,x.rs[k].va,x.rs[k].vk,UJ t x.rs[k].nd⟩) rfl rfl rfl rfl (y.nd d).mC (i:=3) (u:=bA t) rfl;rw[m.out] at F;exact⟨rfl,_,(aC.SF H q).trans F,I (UJ t) _ rfl⟩
variable{B p:Nat}{x:Dx}
structure AM(w:World)(A:vA)(n c:Nat)(l:List P3.At):Prop where
 len:l.length=n
 cap:n<=c
 nil:A=none->c=0
 nD:n<=1000000
 wf:P3.Wf l
 holds:kA.AA w w.heap.size A l
theorem AM.below{w w':World}{A:vA}{n c:Nat}{l:List P3.At}(h:AM w A n c l)(hb:fA w w'):AM w' A n c l:=⟨h.len,h.cap,h.nil,h.nD,h.wf,h.holds.on hb⟩
theorem yc(l:List P3.At)(A:vA)(n c:Nat){r:Bool}(w:World)(hr:P3.kC l=r)(h:AM w A n c l):
 jA 196 #[.slice A n c] w fun e w'=>e= .returned (.bool r)/\fA w w':=by
 subst hr;exact P3.ZO l A n c w h.len h.nD h.cap h.wf (eJ h.holds)
theorem Qe(i:Int)(A:vA)(n c:Nat)(l:List P3.At)(w:World)(hl:AM w A n c l)(h:Dc w B p x):jA 192 #[lA p,aA i,.slice A n c] w (Made w B p x (QA (XD x.d i l).1) (XD x.d i l).2):=by
 have H:=Zh h;have N:=Zh hl;have c0:=h.c0;clear hl;cases hh:nA x.l i with
 |false=>
  have W:=Zh hh;have v:Hid (XD x.d i l=(2,x.d)):=Zh (by unfold XD;rw[if_pos (show nA x.d.l i=false from hh)]);clear h hh;go_enter func192,ntmps192;go_wp2_with fail;refine(bP i w (by rw[H.out.lN];exact W) H.ar).mono ?_;rintro e t ⟨rfl,d⟩;have o:=Zh d;clear d;go_wp2_with fail;go_ret;rw[v.out];exact Made.same H o rfl rfl
 |true=>
  obtain⟨k,m,D,E⟩:=gU h hh;have a:=(sF h m D).1;obtain⟨tg,g⟩:=DA (x.rs[k].nd.tag);rw[g] at a;have I:=Zh D;have X:=Zh E;have y:=Zh g;obtain⟨b,F⟩:=DA (x.rs[k].b);have q:=Zh F;have hl:x.d.l=x.l:=rfl;cases he:tg.toList.isEmpty with
  |true=>
   have f:tg.toList=[]:=(by rw[<-List.isEmpty_iff];exact he);have Y:tg.toList.isEmpty=true:=he;have v:Hid (XD x.d i l=(3,x.d)):=Zh (by unfold XD;rw[if_neg (by rw[hl,hh];simp),if_pos (by rw[hl,a];exact f)]);clear h hh D E F a g he hl f;go_enter func192,ntmps192;go_wp2_with fail;refine(DI i k (x:=b) w (l:=x.rs.map pB) (by simpa using m) (by simp[pB,I.out]) (by simp[pB,q.out]) H.ar).mono ?_;rintro e t ⟨rfl,d⟩;have o:=Zh d;have C:=Zh (H.below d);have J:t.cell? (cA b 2)=some (bA tg):=(by have:=(C.nd m).c2;rwa[q.out,y.out] at this);clear d;go_wp2_with fail;go_ret;rw[v.out];exact Made.same H o rfl rfl
  |false=>
   have f:¬tg.toList=[]:=(by rw[<-List.isEmpty_iff];simp[he]);have Y:tg.toList.isEmpty=false:=he;cases hm:P3.kC l with
   |false=>
    have v:Hid (XD x.d i l=(1,x.d)):=Zh (by unfold XD;rw[if_neg (by rw[hl,hh];simp),if_neg (by rw[hl,a];exact f),if_pos hm]);have K:=Zh hm;clear h hh D E F a g he hl hm f;go_enter func192,ntmps192;go_wp2_with fail;refine(DI i k (x:=b) w (l:=x.rs.map pB) (by simpa using m) (by simp[pB,I.out]) (by simp[pB,q.out]) H.ar).mono ?_;rintro e t ⟨rfl,d⟩;have o:=Zh d;have C:=Zh (H.below d);have J:t.cell? (cA b 2)=some (bA tg):=(by have:=(C.nd m).c2;rwa[q.out,y.out] at this);have s:=Zh (N.below d);clear d;go_wp2_with fail;refine(yc l A n c t K s).mono ?_;rintro e O ⟨rfl,z⟩;have G:=Zh (o.trans (z.mono o.size));clear z;go_wp2_with fail;go_ret;rw[v.out];exact Made.same H G rfl rfl
   |true=>
    have v:Hid (XD x.d i l=(0,{x.d with l:=mB x.d.l i (pH l)})):=Zh (by unfold XD;rw[if_neg (by rw[hl,hh];simp),if_neg (by rw[hl,a];exact f),if_neg (by simp[hm])]);have K:=Zh hm;clear h hh D E F a g he hl hm f;go_enter func192,ntmps192;go_wp2_with fail;refine(DI i k (x:=b) w (l:=x.rs.map pB) (by simpa using m) (by simp[pB,I.out]) (by simp[pB,q.out]) H.ar).mono ?_;rintro e t ⟨rfl,d⟩;have o:=Zh d;have C:=Zh (H.below d);have J:t.cell? (cA b 2)=some (bA tg):=(by have:=(C.nd m).c2;rwa[q.out,y.out] at this);have s:=Zh (N.below d);clear d;go_wp2_with fail;refine(yc l A n c t K s).mono ?_;rintro e O ⟨rfl,z⟩;have G:=Zh (o.trans (z.mono o.size));have j:=Zh (s.below z);have Z:=Zh (C.below z);clear z J;go_wp2_with fail;refine(uT l A n c O j.len j.nD (fun e=>by have:=j.nil e;have:=j.cap;omega) j.holds).mono ?_;rintro e P ⟨Q,R,S,rfl,T,L⟩;have B3:=Zh (G.trans (L.mono G.size));have M:=Zh (Z.below L);have O3:=Zh T;have d5:P.cell? (cA b 5)=some x.rs[k].va.val:=(by have:=(M.nd m).c5;rwa[q.out] at this);have g5:P.frozen? (cA b 5)=false:=(by have:=(M.nd m).frozen 5;rwa[q.out] at this);clear L T;go_wp2_with fail;go_ret;rw[v.out];obtain⟨⟨sA,sn,sc⟩,U,ha⟩:=ZB.own O3;simp only[Sv.val,Value.slice.injEq] at U;obtain⟨rfl,rfl,rfl⟩:=U;have V:=M.LP m (r:=⟨x.rs[k].b,⟨Q,R,S⟩,x.rs[k].vk,pH l x.rs[k].nd⟩) rfl rfl rfl rfl ha (i:=5) (u:=.slice Q R S) rfl;rw[q.out] at V;exact⟨rfl,_,(aC.SF H B3).trans V,X (pH l) _ rfl⟩
open Classical in
noncomputable def RP (P:Int->Int) (y:Int):Nat:=if h:∃k,kH P y k then Classical.choose h else 0
theorem ym{P:Int->Int}{y:Int}{i j:Nat}(hi:kH P y i)(hj:kH P y j):i=j:=by
 rcases Nat.lt_trichotomy i j with h|h|h
 ·exact absurd hi.1 (hj.2 i h)
 ·exact h
 ·exact absurd hj.1 (hi.2 j h)
theorem C5{P:Int->Int}{y:Int}{k:Nat}(h:kH P y k):RP P y=k:=by
 have hx:∃k,kH P y k:=⟨k,h⟩;unfold RP;rw[dif_pos hx];exact ym (Classical.choose_spec hx) h
theorem zm{l:List Nd}(h:Tr (fun y=>nA l y=true) (EA l) (xA l)){y:Int}(hy:y≠0):RP (EA l) (EA l y)<RP (EA l) y:=by
 obtain⟨k,a⟩:=h.dep y;rw[C5 a];cases k with
 |zero=>exact absurd a.1 hy
 |succ k=>
  have:kH (EA l) (EA l y) k:=⟨a.1,fun i b=>a.2 (i+1) dA⟩;rw[C5 this];omega
theorem Pg{l:List Nd}(h:Tr (fun y=>nA l y=true) (EA l) (xA l)){a b:Int}{j:Nat}(ha:nA l a=true)(hb:b≠0)(hj:it (EA l) j a=b):inside l a b=true:=by
 obtain⟨k,c⟩:=h.dep a;have d:=h.XR (L:=MA l) (fun y f=>zE.1 f) ha c;have e:j<k:=by
  rcases Nat.lt_or_ge j k with hlt|hge
  ·exact hlt
  ·exact absurd (hj.symm.trans (h.IP c.1 hge)) hb
 unfold inside dH;rw[decide_eq_true_iff,<-hj];simp only[MA,List.length_map] at d;exact h.bW _ a k j ha c e dA
theorem Yi{l:List Nd}(h:Tr (fun y=>nA l y=true) (EA l) (xA l)){a b:Int}{j:Nat}(hj:it (EA l) j a=0)(hn:∀m,m<j->it (EA l) m a≠b):inside l a b=false:=by
 unfold inside dH;rw[decide_eq_false_iff_not];intro e;obtain⟨m,c,d⟩:=ZN _ _ _ e;rcases Nat.lt_or_ge m j with hlt|hge
 ·exact hn m hlt c
 ·rw[h.IP hj hge] at c;subst c;exact h.z d
theorem Qg(a b:Int)(w:World)(hwf:WF x.d)(ha:nA x.l a=true)(hb:nA x.l b=true)(h:Dc w B p x):jA 214 #[lA p,aA a,aA b] w fun e w'=>e= .returned (.bool (inside x.l a b))/\fA w w':=by
 have H:=Zh h;have r:Hid (Tr (fun y=>nA x.l y=true) (EA x.l) (xA x.l)):=Zh hwf.tr;have A:=Zh ha;have J:1<=b:=(hwf.pos hb).1;clear h hwf ha hb;go_enter func214,ntmps214;go_wp2_with fail;go_loopw [1] (fun i wr=>∃(c:Int) (j:Nat),i = aA c/\Hid (it (EA x.l) j a=c)/\Hid (∀m,m<j->it (EA x.l) m a≠b)/\Hid (fA w wr)) (fun i _=>RP (EA x.l) (intOf i))
 case atStart=>exact⟨a,0,rfl,Zh rfl,Zh (fun m C=>absurd C dA),Zh Ze⟩
 case round=>
  obtain⟨c,j,rfl,n,D,g⟩:=hrel;by_cases l:c=0
  ·subst l;have Q:((0:Int)==b)=false:=beq_eq_false_iff_ne.2 dA;go_wp2_with fail;go_ret;exact⟨WC (Yi r n D).symm,g⟩
  ·have K:(c != 0)=true:=(by simpa using l);by_cases f:c=b
   ·have s:(c != b)=false:=(by simpa using f);have L:(c==b)=true:=(by simpa using f);have M:Hid (inside x.l a b=true):=Zh (Pg r A dA (n.trans f));clear f l;go_wp2_with fail;go_ret;exact⟨WC M.symm,g⟩
   ·have s:(c != b)=true:=(by simpa using f);have d:nA x.l c=true:=by
     have E:=n.out;have:=r.pW A j (by rw[E];exact l);rwa[E] at this
    have t:=Zh (H.below g);obtain⟨k,u,F,_⟩:=t.place d;obtain⟨nb,o⟩:=DA (x.rs[k].b);have G:=Zh F;have q:=Zh o;have R:w.heap.size<=wr.heap.size:=g.size;have N:=Zh l;have v:=Zh f;clear F o d l f;go_wp2_with fail;refine(lG c _ u G q t).mono ?_;rintro e O ⟨rfl,z⟩;have P:=Zh (g.trans (z.mono g.size));have S:O.cell? (cA nb 1)=some (aA (EA x.l c)):=by
     have I:=t.below z;have:=(I.nd u).c1;rw[q.out] at this;rw[(sF I u G.out).2.1];exact this
    clear z;go_wp2_with fail;go_roundw
    case rel=>
     refine⟨_,j+1,rfl,Zh (by rw[OF,n.out]),Zh (fun m C=>?_),P⟩;by_cases e:m=j
     ·subst e;rw[n.out];exact v
     ·exact D m dA
    case measure=>exact zm r N
variable{B p:Nat}{x:Dx}
theorem hU{k:Nat}(hk:k<x.rs.length){r:Rw}(hb:r.b=x.rs[k].b)(hid:r.nd.id=x.rs[k].nd.id):(x.put k r).rs.map pB=x.rs.map pB:=by
 show(x.rs.set k r).map pB=x.rs.map pB;apply List.ext_getElem
 ·simp
 ·intro j a c;simp only[List.getElem_map,List.getElem_set];split
  ·rename_i e;subst e;simp[pB,hb,hid]
  ·rfl
theorem dj{k m:Nat}(hk:k<x.rs.length){r:Rw}(hne:m≠k):∃h1:k<(x.put m r).rs.length,(x.put m r).rs[k]=x.rs[k]:=by
 refine⟨by show k<(x.rs.set m r).length;simpa using hk,?_⟩;show(x.rs.set m r)[k]'(by simpa using hk)=x.rs[k];exact List.getElem_set_ne hne _
theorem gR{rs rs':List Rw}(h:rs'.map pB=rs.map pB){k:Nat}(hk:k<rs.length):∃h1:k<rs'.length,rs'[k].nd.id=rs[k].nd.id/\rs'[k].b=rs[k].b:=by
 have a:rs'.length=rs.length:=(by simpa using congrArg List.length h);have h1:k<rs'.length:=dA;refine⟨h1,?_⟩;have e:=congrArg (fun l=>l[k]?) h;simp only[List.getElem?_map,List.getElem?_eq_getElem hk,List.getElem?_eq_getElem h1,Option.map_some,Option.some.injEq] at e;unfold pB at e;injection e with e1 e2;exact⟨e1,e2⟩
def Left(w:World)(B p:Nat)(x:Dx)(i:Int)(e:Ending)(w':World):Prop:=
 e= .returned (.tuple #[])/\∃rs':List Rw,aC w B p x {x with rs:=rs'} w'/\rs'.map (·.nd)=UA x.l i/\rs'.map pB=x.rs.map pB
theorem fj{w2 w3:World}{i q:Int}{k m:Nat}(H2:Dc w2 B p x)(hk:k<x.rs.length)(hm:m<x.rs.length)(hne:m≠k)(hy:x.rs[k].nd.id=i)(hym:x.rs[m].nd.id=q)
 (hE:UA x.l i=mB (mB x.l q (YC (less i))) i (VD 0)) {A3:vA} {n3 c3:Nat} (hb:iA (fun g=>x.rs[m].vk.val.ownBlock=some g) w2 w3) (ho:kI.Own w3 B (.slice A3 n3 c3) (less i x.rs[m].nd.kids))
 (hat:(Value.slice A3 n3 c3).ownBlock=x.rs[m].vk.val.ownBlock):
 ∃rs':List Rw,aC w2 B p x {x with rs:=rs'} ((w3.setCell ⟨x.rs[m].b,6,none⟩ (.slice A3 n3 c3)).setCell ⟨x.rs[k].b,1,none⟩ (aA 0))/\rs'.map (·.nd)=UA x.l i/\rs'.map pB=x.rs.map pB:=by
 obtain⟨r1,a⟩:∃r1:Rw,r1=⟨x.rs[m].b,x.rs[m].va,⟨A3,n3,c3⟩,YC (less i) x.rs[m].nd⟩:=⟨_,rfl⟩;have j:=H2.Wc hm (r:=r1) (f:=less i) (w':=w3) (by rw[a]) (by rw[a]) (by rw[a]) hb (by rw[a];exact ho) (fun g w=> .inl (by rw[a] at w;rw[<-hat];exact w));obtain⟨o,s⟩:=dj (x:=x) hk (r:=r1) hne;have D:r1.vk.val= .slice A3 n3 c3:=(by rw[a];rfl);rw[D] at j;have t:=JP H2 hm (r:=r1) (f:=YC (less i)) (by rw[a]);rw[hym] at t;have A:=hU (x:=x) hm (r:=r1) (by rw[a]) (by rw[a];rfl);obtain⟨y,d⟩:∃y,y=x.put m r1:=⟨_,rfl⟩;rw[<-d] at j t A;obtain⟨c,l⟩:∃h:k<y.rs.length,y.rs[k]=x.rs[k]:=by subst d;exact⟨o,s⟩
 have e:=j.dc.LP c (r:=⟨y.rs[k].b,y.rs[k].va,y.rs[k].vk,VD 0 y.rs[k].nd⟩) rfl rfl rfl rfl (j.dc.nd c).mC (i:=1) (u:=aA 0) rfl;have v:=JP j.dc c (r:=⟨y.rs[k].b,y.rs[k].va,y.rs[k].vk,VD 0 y.rs[k].nd⟩) (f:=VD 0) rfl;have n:=hU (x:=y) c (r:=⟨y.rs[k].b,y.rs[k].va,y.rs[k].vk,VD 0 y.rs[k].nd⟩) rfl rfl;obtain⟨z,C⟩:∃z,z=y.put k ⟨y.rs[k].b,y.rs[k].va,y.rs[k].vk,VD 0 y.rs[k].nd⟩:=⟨_,rfl⟩;rw[<-C] at e v n;rw[show y.rs[k].b=x.rs[k].b by rw[l]] at e;refine⟨z.rs,?_,?_,n.trans A⟩
 ·have:({x with rs:=z.rs}:Dx)=z:=(by subst C;subst d;rfl);rw[this];exact j.trans e
 ·rw[t,show y.rs[k].nd.id=i by rw[l,hy],<-hE] at v;exact v
theorem iU(i:Int)(w:World)(hwf:WF x.d)(hi:nA x.l i=true)(h:Dc w B p x):jA 215 #[lA p,aA i] w (Left w B p x i):=by
 have D:Hid (Tr (fun y=>nA x.l y=true) (EA x.l) (xA x.l)):=Zh hwf.tr;have H:=Zh h;obtain⟨k,r,E,_⟩:=h.place hi;have g:=(sF h r E).2.1;obtain⟨b,t⟩:=DA (x.rs[k].b);obtain⟨q,l⟩:=DA (EA x.l i);rw[l] at g;have Q:=Zh E;have z:=Zh t;have HQ:=Zh l;have R:=Zh g;have hR:x.rs.length<=200:=(by have N:=h.ar.len;have h2:=h.ar.room;rw[List.length_map] at N;omega);by_cases f:q=0
 ·have S:Hid (UA x.l i=x.l):=Zh (by unfold UA;rw[l,if_pos f]);have T:(q==0)=true:=(by simpa using f);clear h E t l g hi hwf f;go_enter func215,ntmps215;go_wp2_with fail;refine(lG i w r Q z H).mono ?_;rintro e O ⟨rfl,A⟩;have P:=Zh A;have d1:O.cell? (cA b 1)=some (aA q):=(by have:=((H.below A).nd r).c1;rwa[z.out,<-R.out] at this);clear A;go_wp2_with fail;refine bodyPost_ret (results_none rfl _ _ _) rfl ?_;exact⟨rfl,x.rs,aC.SF H P,S.symm,rfl⟩
 ·have T:(q==0)=false:=(by simpa using f);have F:nA x.l q=true:=(by rw[<-l];exact D.rI (by rw[l];exact f));have G:i∈xA x.l q:=(by rw[<-l];exact D.par i (by rw[l];exact f));obtain⟨m,s,u,_⟩:=h.place F;have C:=(sF h s u).2.2;obtain⟨bm,I⟩:=DA (x.rs[m].b);have J:m≠k:=by
   rintro rfl;refine D.IL (x:=i) (j:=0) (D.jG hi) ?_;show EA x.l i=i;rw[l,<-u,E]
  have S:Hid (UA x.l i=mB (mB x.l q (YC (less i))) i (VD 0)):=Zh (by unfold UA;rw[l,if_neg f]);have U:=Zh J;have K:=Zh u;have n:=Zh I;have V:Hid (i∈x.rs[m].nd.kids):=Zh (by rw[<-C];exact G);have W:Hid (x.rs[m].nd.kids.Nodup):=Zh (by rw[<-C];exact D.AD q);have X:x.rs[m].nd.kids.length<=1000000:=(by have:=hwf.SO (x:=x.rs[m].nd) (List.mem_map.2 ⟨_,List.getElem_mem s,rfl⟩);omega);obtain⟨vm,L⟩:=DA (x.rs[m].vk.val);have o:=Zh L;clear h E t l g hi hwf f F G u C I J L;go_enter func215,ntmps215;go_wp2_with fail;refine(lG i w r Q z H).mono ?_;rintro e O ⟨rfl,A⟩;have P:=Zh A;have Y:=Zh (H.below A);have d1:O.cell? (cA b 1)=some (aA q):=(by have:=(Y.nd r).c1;rwa[z.out,<-R.out] at this);clear A;go_wp2_with fail;refine(lG q O s K n Y).mono ?_;rintro e Z ⟨rfl,b2⟩;have B2:=Zh (P.trans (b2.mono P.size));have v:=Zh (Y.below b2);have d6:Z.cell? (cA bm 6)=some vm:=(by have:=(v.nd s).c6;rwa[n.out,o.out] at this);clear b2 d1;go_wp2_with fail;refine(uX x.rs[m].nd.kids i Z X V W (by have:=(v.nd s).kids;rwa[o.out] at this)).mono ?_;rintro e w3 ⟨A3,n3,c3,rfl,o3,b3,M⟩;have O3:=Zh o3;have B3:=Zh b3;have a0:=Zh M;have c:∀(j:Nat) (hj:j<x.rs.length),w3.heap[x.rs[j].b]? = Z.heap[x.rs[j].b]?:=fun j hj=>b3.block _ (v.nd hj).lt (fun e=>by
   obtain⟨d,hd⟩:=(v.nd s).kids.ty (by rw[o.out];exact e);exact WA hd (v.nd hj).zA pA rfl)
  have K3:=Zh c;have e6:w3.cell? (cA bm 6)=some vm:=(by have:=World.cell?_of_block (a:=⟨x.rs[m].b,6,none⟩) (c m s);rw[n.out] at this;rw[this];exact d6);have f6:w3.frozen? (cA bm 6)=false:=(by have t:=c m s;rw[(v.out.nd s).zA,n.out] at t;simp[World.frozen?,t]);have e1:w3.cell? (cA b 1)=some (aA q):=(by have:=World.cell?_of_block (a:=⟨x.rs[k].b,1,none⟩) (c k r);rw[(v.out.nd r).c1,<-R.out,z.out] at this;exact this);have f1:w3.frozen? (cA b 1)=false:=(by have t:=c k r;rw[(v.out.nd r).zA,z.out] at t;simp[World.frozen?,t]);clear o3 b3 M c d6;go_wp2_with fail
  go_end0
  obtain⟨a1,N,h2,h3⟩:=fj v r s U Q K S (A3:=A3) (n3:=n3) (c3:=c3) (w3:=w3) (by rw[o.out];exact B3) O3 (by rw[o.out];exact a0);rw[n.out,z.out] at N;exact⟨rfl,a1,(aC.SF H B2).trans N,h2,h3⟩
end P5
namespace P4
open Go.RowKit Kd
theorem Na(a b:Int)(w:World):(binOp .eql 26 (.iface 29 (aA a)) (.iface 29 (aA b))).run prog w= .ok (.bool (a==b)) w:=
 Lib.run_eql_iface_int w a b underlying26 (by kernel_rfl) underlying29
theorem vX(x:Value)(w:World):(binOp .eql 26 (.iface 29 x) .nilIface).run prog w= .ok (.bool false) w:=run_eql_held_nil _ _ _ _ (by kernel_rfl)
theorem qF(x:Value)(w:World):(binOp .neq 26 (.iface 29 x) .nilIface).run prog w= .ok (.bool true) w:=run_neq_held_nil _ _ _ _ (by kernel_rfl)
theorem wX(w:World):(binOp .eql 26 .nilIface .nilIface).run prog w= .ok (.bool true) w:=Go.run_eql_nil_nil _ _ (by kernel_rfl)
theorem AF(w:World):(binOp .neq 26 .nilIface .nilIface).run prog w= .ok (.bool false) w:=Go.run_neq_nil_nil _ _ (by kernel_rfl)
end P4
namespace P3
open Go.RowKit
end P3
open Go.RowKit
theorem Zu(i d:Nat){P:Program}{ops:Array Oper}{Q:Exit->Act->World->Prop}{md:Region.Mode}{S:World->Prop}{oi:Oper}{v:Value}{fuel:Nat}{listed:Array Bool}{a:Act}{w:World}{L:Array Bool}{a':Act}
 (h:wpAnyH P md ops Q S fuel L a' w) (hr:(Region.ready md ops listed).contains i=true:=by decide +kernel) (hf:Region.free md ops listed i=true:=by decide +kernel) (hi:ops[i]? = some oi:=by rfl) (hd:oi.dst=some d:=by rfl) (hs:Region.noSelect ops=true:=by kernel_rfl)
 (hQ:∀c a w,Q (.panic c) (a.put (some d) v) w->Q (.panic c) a w:=by exact fun _ _ _ h=>h) (hy:YieldsIf P ops S oi v a:=by exact Or.inl ⟨by rfl,by intro w' hSw;(try dsimp only at hSw);go_simp;try with_reducible rfl⟩) (hS:S w:=by assumption) (eL:listed.setIfInBounds i true=L:=by(try simp only[Zs]);rfl) (ea:a.put (some d) v=a':=by(try simp only[Zs]);rfl):wpAnyH P md ops Q S (fuel+1) listed a w:=
 wpAnyH_take hi hs hf hr (by rw[hd];exact hQ) hy hS (by rw[hd,eL,ea];exact h)
theorem Zv(i:Nat){P:Program}{ops:Array Oper}{Q:Exit->Act->World->Prop}{md:Region.Mode}{S:World->Prop}{oi:Oper}{v:Value}{fuel:Nat}{listed:Array Bool}{a:Act}{w:World}{L:Array Bool}{a':Act}
 (h:wpAnyH P md ops Q S fuel L a' w) (hr:(Region.ready md ops listed).contains i=true:=by decide +kernel) (hf:Region.free md ops listed i=true:=by decide +kernel) (hi:ops[i]? = some oi:=by rfl) (hs:Region.noSelect ops=true:=by kernel_rfl)
 (hQ:∀c a w,Q (.panic c) (a.put oi.dst v) w->Q (.panic c) a w:=by exact fun _ _ _ h=>h) (hy:YieldsIf P ops S oi v a:=by exact Or.inl ⟨by rfl,by intro w' hSw;(try dsimp only at hSw);go_simp;try with_reducible rfl⟩) (hS:S w:=by assumption) (eL:listed.setIfInBounds i true=L:=by(try simp only[Zs]);rfl) (ea:a.put oi.dst v=a':=by(try simp only[Zs]);rfl):wpAnyH P md ops Q S (fuel+1) listed a w:=
 wpAnyH_take hi hs hf hr hQ hy hS (by rw[eL,ea];exact h)
theorem Zj(i d:Nat){P:Program}{ops:Array Oper}{Q:Exit->Act->World->Prop}{md:Region.Mode}{S:World->Prop}{oi:Oper}{fuel:Nat}{listed:Array Bool}{a:Act}{w:World}{L:Array Bool}{a':Act}
 (h:wpAnyH P md ops Q S fuel L a' w) (hr:(Region.ready md ops listed).contains i=true:=by decide +kernel) (hf:Region.free md ops listed i=true:=by decide +kernel) (hi:ops[i]? = some oi:=by rfl) (hd:oi.dst=some d:=by rfl) (hs:Region.noSelect ops=true:=by kernel_rfl)
 (hQ:∀c a w,Q (.panic c) (a.put (some d) undef) w->Q (.panic c) a w:=by exact fun _ _ _ h=>h) (hy:YieldsIf P ops S oi undef a:=by exact Or.inr ⟨by rfl,rfl⟩) (hS:S w:=by assumption) (eL:listed.setIfInBounds i true=L:=by(try simp only[Zs]);rfl) (ea:a.put (some d) undef=a':=by(try simp only[Zs]);rfl):wpAnyH P md ops Q S (fuel+1) listed a w:=
 wpAnyH_take hi hs hf hr (by rw[hd];exact hQ) hy hS (by rw[hd,eL,ea];exact h)
theorem Zq(rs:List Nat){P:Program}{ops:Array Oper}{Q:Exit->Act->World->Prop}{md:Region.Mode}{S:World->Prop}{fuel:Nat}{listed:Array Bool}{a:Act}{w:World}(h:AllReadyH P md ops Q S fuel listed a w rs)(hr:Region.ready md ops listed=rs:=by decide +kernel)(hne:rs≠[]:=by simp):wpAnyH P md ops Q S (fuel+1) listed a w:=wpAnyH_ready hr hne h
namespace Tl
open Go
section
variable{P:Program}{ops:Array Oper}{Q:Exit->Act->World->Prop}{md:Region.Mode}{L:Nat}{oL:Oper}
def idle(o:Oper):Oper:={o with op:=.assign (.const (.bool true))}
def bS(P:Program)(ops:Array Oper)(oL:Oper)(Q:Exit->Act->World->Prop):Exit->Act->World->Prop
 | .normal,a,w=>∀K:Act->World->Prop,(∀a w,Q .normal a w->K a w)->if Region.wanted oL (yielded ops a.tmps)=true then Oper.wp P oL a w K Q else K (a.put oL.dst undef) w
 |e,a,w=>Q e a w
theorem lets(h:LetsOut (bS P ops oL Q)):LetsOut Q:=h
theorem DR(hL:ops[L]? = some oL)(j:Nat):(ops.setIfInBounds L (idle oL))[j]? = (ops[j]?).map fun o=>if j=L then idle oL else o:=by
 rw[Array.getElem?_setIfInBounds];by_cases e:L=j
 ·subst e;rw[if_pos rfl,hL];simp[(Array.getElem?_eq_some_iff.1 hL).1]
 ·rw[if_neg e];cases ops[j]?<;>simp[Ne.symm e]
theorem eh(hL:ops[L]? = some oL)(j:Nat):((ops.setIfInBounds L (idle oL))[j]?).map (·.after)=(ops[j]?).map (·.after):=by
 rw[DR hL];by_cases e:j=L
 ·subst e;rw[hL];simp[idle]
 ·cases ops[j]?<;>simp[e]
theorem Sm(hL:ops[L]? = some oL)(j:Nat):((ops.setIfInBounds L (idle oL))[j]?).bind (·.dst)=(ops[j]?).bind (·.dst):=by
 rw[DR hL];by_cases e:j=L
 ·subst e;rw[hL];simp[idle]
 ·cases ops[j]?<;>simp[e]
theorem Re(hL:ops[L]? = some oL)(t:Array Value):yielded (ops.setIfInBounds L (idle oL)) t=yielded ops t:=by
 funext j;unfold yielded;rw[Sm hL]
theorem mY(hL:ops[L]? = some oL)(listed:Array Bool):Region.ready md (ops.setIfInBounds L (idle oL)) listed=Region.ready md ops listed:=by
 unfold Region.ready;rw[Array.size_setIfInBounds];congr 1;funext i;have:=eh hL i;have e:∀x:Option Oper,(x.map fun o=>o.after.all fun e=>!Region.binds md e || listed.getD e.on false)=(x.map (·.after)).map fun a=>a.all fun e=>!Region.binds md e || listed.getD e.on false:=fun x=>by cases x<;>rfl
 rw[e,e,this]
def iW(md:Region.Mode)(ops:Array Oper)(L:Nat):Bool:=
 (List.range ops.size).all fun k=>(k==L || (List.range ops.size).any fun j=>decide (k<j)&&((ops[j]?).map fun o=>o.after.any fun e=>Region.binds md e&&e.on==k).getD false)&&((ops[k]?).map fun o=>o.after.all fun e=>!Region.binds md e || decide (e.on<k)).getD false&&decide (k<=L)
structure wS(md:Region.Mode)(ops:Array Oper)(L:Nat):Prop where
 next:∀k,k<ops.size->k≠L->∃j o,k<j/\ops[j]? = some o/\∃e∈o.after,Region.binds md e=true/\e.on=k
 prev:∀(k:Nat) (o:Oper),ops[k]? = some o->∀e∈o.after,Region.binds md e=true->e.on<k
 last:∀k,k<ops.size->k<=L
theorem fh(h:iW md ops L=true):wS md ops L:=by
 unfold iW at h;rw[List.all_eq_true] at h;refine⟨fun k b f=>?_,fun k o m e g c=>?_,fun k b=>?_⟩
 ·have:=h k (List.mem_range.2 b);simp only[Bool.and_eq_true,Bool.or_eq_true,beq_iff_eq,f,false_or] at this;obtain⟨j,i,d⟩:=List.any_eq_true.1 this.1.1;simp only[Bool.and_eq_true,decide_eq_true_eq] at d;obtain⟨l,a⟩:=d;rw[List.mem_range] at i;rw[Array.getElem?_eq_getElem i] at a;simp only[Option.map_some,Option.getD_some] at a;obtain⟨e,g,c⟩:=Array.any_eq_true'.1 a;simp only[Bool.and_eq_true,beq_iff_eq] at c;exact⟨j,ops[j],l,Array.getElem?_eq_getElem i,e,g,c.1,c.2⟩
 ·have b:=(Array.getElem?_eq_some_iff.1 m).1;have:=h k (List.mem_range.2 b);simp only[Bool.and_eq_true,m,Option.map_some,Option.getD_some] at this;have n:=Array.all_eq_true_iff_forall_mem.1 this.1.2 e g;simpa[c] using n
 ·have:=h k (List.mem_range.2 b);simp only[Bool.and_eq_true,decide_eq_true_eq] at this;exact this.2
def zP(md:Region.Mode)(ops:Array Oper)(listed:Array Bool):Prop:=∀j o,ops[j]? = some o->listed.getD j false=true->∀e∈o.after,Region.binds md e=true->listed.getD e.on false=true
theorem zP.set{listed:Array Bool}(h:zP md ops listed){i:Nat}(hi:i∈Region.ready md ops listed):zP md ops (listed.setIfInBounds i true):=by
 intro j o c d e f g;by_cases b:i=j
 ·subst b;obtain⟨_,l,a,k⟩:=mem_ready.1 hi;rw[c] at a;injection a with a;subst a;exact getD_set_true (k e f g)
 ·rw[getD_set_ne false b] at d;exact getD_set_true (h j o c d e f g)
theorem jh(hl:wS md ops L){listed:Array Bool}(hc:zP md ops listed)(hr:L∈Region.ready md ops listed):∀n k,n+k=L->k<ops.size->k≠L->listed.getD k false=true:=by
 obtain⟨_,q,i,l⟩:=mem_ready.1 hr;intro n
 induction n using Nat.strongRecOn with
 |ind n ih=>
  intro k r m c;obtain⟨j,o,p,a,e,d,f,rfl⟩:=hl.next k m c;have g:=(Array.getElem?_eq_some_iff.1 a).1;by_cases b:j=L
  ·subst b;rw[i] at a;injection a with a;subst a;exact l e d f
  ·have:=hl.last j g;exact hc j o a (ih (L-j) dA j dA g b) e d f
theorem Tm{listed:Array Bool}{k:Nat}(h:listed.getD k false=true)(d:Bool):listed.getD k d=true:=by
 simp only[Array.getD_eq_getD_getElem?] at h|-;cases e:listed[k]? with
 |none=>rw[e] at h;simp at h
 |some v=>rw[e] at h;simpa using h
theorem lh(hl:wS md ops L){listed:Array Bool}(hs:listed.size=ops.size)(k:Nat):k<ops.size->listed.getD k true=false->Region.ready md ops listed≠[]:=by
 induction k using Nat.strongRecOn with
 |ind k ih=>
  intro c g;by_cases a:∀e∈(ops[k]'c).after,Region.binds md e=true->listed.getD e.on false=true
  ·intro i;have:k∈Region.ready md ops listed:=mem_ready.2 ⟨g,_,Array.getElem?_eq_getElem c,a⟩;rw[i] at this;cases this
  ·simp only[Classical.not_forall] at a;obtain⟨e,j,l,f⟩:=a;have d:=hl.prev k _ (Array.getElem?_eq_getElem c) e j l;refine ih e.on d dA ?_;have b:e.on<listed.size:=dA;simp only[Array.getD_eq_getD_getElem?,Array.getElem?_eq_getElem b,Option.getD_some,Bool.not_eq_true] at f|-;exact f
theorem mh{listed:Array Bool}(h:∀k,k<ops.size->listed.getD k true=true):Region.ready md ops listed=[]:=by
 rw[List.eq_nil_iff_forall_not_mem];intro k b;obtain⟨a,o,c,_⟩:=mem_ready.1 b;rw[h k (Array.getElem?_eq_some_iff.1 c).1] at a;cases a
theorem Um{o:Oper}{a:Act}{K K':Act->World->Prop}{Q':Exit->Act->World->Prop}(hK:∀a w,K a w->K' a w)(hp:∀c a w,Q' (.panic c) a w->Q (.panic c) a w)(hl:LetsOut Q'->LetsOut Q){r:Result Next}(h:o.upon P a K Q' r):o.upon P a K' Q r:=by
 cases r with
 |ok n w'=>
  cases n with
  |value v=>exact hK _ _ h
  |skip=>exact hK _ _ h
  |defer d=>exact hK _ _ h
  |enter f args=>
   refine Calls.mono (h:Calls P f args w' _) fun e g b=>?_
   cases e with
   |returned v=>exact hK _ _ b
   |panicked c=>exact hp _ _ _ b
   |outgrown=>exact hl b
  |row row args=>exact Rows.mono (h:Rows P row args w' _) fun _ _ b=>hK _ _ b
  |_=>exact(h:False).elim
 |halt x w'=>cases x<;>first|exact hp _ _ _ h|exact(h:False).elim
theorem Vm{a:Act}{w:World}(hd:oL.dst=none){K:Act->World->Prop}{Q':Exit->Act->World->Prop}(h:(idle oL).wp P a w K Q'\/((idle oL).asks P a w/\LetsOut Q')):K a w:=by
 rcases h with h|h
 ·unfold Oper.wp idle at h;simp only[execOp,Act.eval] at h;simpa[Act.put,hd,Oper.upon] using h
 ·exfalso;have b:=h.1.1;unfold idle at b;simp only[execOp,Act.eval] at b;have c:noRoomEvent∈(#[]:Array Event):=b;simp at c
theorem nh(hL:ops[L]? = some oL)(hd:oL.dst=none)(hg:oL.guard=none)(hl:wS md ops L):∀(fuel:Nat) (listed:Array Bool) (a:Act) (w:World),listed.size=ops.size->zP md ops listed->listed.getD L true=false->
 (∀k,k<ops.size->listed.getD k true=false->fuel≠0)->(listed.toList.countP (!·))<=fuel->
 wpAny P md (ops.setIfInBounds L (idle oL)) (bS P ops oL Q) fuel listed a w->wpAny P md ops Q fuel listed a w:=by
 have p:=(Array.getElem?_eq_some_iff.1 hL).1;intro fuel
 induction fuel with
 |zero=>intro listed a w _ _ t x _ _;exact absurd rfl (x L p t)
 |succ fuel ih=>
  intro listed a w y B t _ C h;obtain⟨I,D⟩:=h;refine⟨fun x=>absurd x (lh hl y L p t),fun i u=>?_⟩;have b:=D i (by rw[mY hL];exact u);have q:(listed.setIfInBounds i true).size=ops.size:=(by rw[Array.size_setIfInBounds];exact y);by_cases l:i=L
  ·subst l;have d:Region.ready md ops (listed.setIfInBounds i true)=[]:=mh fun k v=>by
    by_cases e:i=k
    ·subst e;simp[y,v]
    ·rw[getD_set_ne true e];exact Tm (jh hl B u (i-k) k (IA (hl.last k v)) v (Ne.symm e)) true
   have m:bS P ops oL Q .normal a w:=by
    unfold wpOp at b;rw[DR hL,hL] at b;simp only[Option.map_some,if_true] at b;have g:Region.wanted (idle oL) (yielded (ops.setIfInBounds i (idle oL)) a.tmps)=true:=(by simp[Region.wanted,idle,hg]);rw[if_pos g] at b;have:=Vm hd b;cases fuel with
    |zero=>exact this.2
    |succ fuel=>exact this.1 (by rw[mY hL];exact d)
   have:=m (wpAny P md ops Q fuel (listed.setIfInBounds i true)) fun a w E=>wpAny_done d E fuel
   unfold wpOp;rw[hL];simp only;split
   ·rename_i g;rw[if_pos g] at this;exact .inl this
   ·rename_i g;rw[if_neg g] at this;exact this
  ·have f:=mem_ready.1 u;have z:(listed.setIfInBounds i true).getD L true=false:=(by rw[getD_set_ne true l];exact t);have n:(listed.setIfInBounds i true).toList.countP (!·)<=fuel:=by
    have c:i<listed.size:=by
     obtain⟨_,o,r,_⟩:=f;have:=(Array.getElem?_eq_some_iff.1 r).1;omega
    have F:listed.toList[i]'(by simpa using c)=false:=by
     have:=f.1;simpa[c] using this
    rw[Array.toList_setIfInBounds,List.countP_set (by simpa using c),F];simp only[Bool.not_false,Bool.not_true,if_true,Bool.false_eq_true,if_false];omega
   have s:∀k,k<ops.size->(listed.setIfInBounds i true).getD k true=false->fuel≠0:=by
    rintro k v A rfl;have c:k<(listed.setIfInBounds i true).toList.length:=(by simpa using (by omega:k<listed.size));have:0<(listed.setIfInBounds i true).toList.countP (!·):=by
     rw[List.countP_pos_iff];refine⟨(listed.setIfInBounds i true).toList[k],List.getElem_mem c,?_⟩;have G:k<(listed.setIfInBounds i true).size:=(by simpa using c);have:(listed.setIfInBounds i true)[k]=false:=by
      simpa[Array.getD_eq_getD_getElem?,Array.getElem?_eq_getElem G] using A
     rw[Array.getElem_toList,this];rfl
    omega
   have j:=fun H w'=>ih (listed.setIfInBounds i true) H w' q (B.set u) z s n
   unfold wpOp at b|-;rw[DR hL] at b;obtain⟨o,r⟩:∃o,ops[i]? = some o:=by obtain⟨_,o,r,_⟩:=f;exact⟨o,r⟩
   rw[r] at b|-;simp only[Option.map_some,if_neg l,Re hL] at b|-;split
   ·rename_i g;rw[if_pos g] at b;rcases b with h|h
    ·exact .inl (Um j (fun _ _ _ h=>h) lets h)
    ·exact .inr ⟨h.1,lets h.2⟩
   ·rename_i g;rw[if_neg g] at b;exact j _ _ b
theorem sL{S:World->Prop}{id:Nat}{a:Act}{w:World}(hm:P.follows .mixedOrders=true)(L:Nat)(oL:Oper)(hL:ops[L]? = some oL)(hd:oL.dst=none)(hg:oL.guard=none)(hl:iW .any ops L=true)(hS:S w.drew)
 (h:S w.drew->wpAnyH P .any (ops.setIfInBounds L (idle oL)) (bS P ops oL Q) S ops.size (Array.replicate ops.size false) a w.drew):(Code.region id ops true).wp P Q a w:=by
 have b:=(Array.getElem?_eq_some_iff.1 hL).1;refine wp_region_any hm (nh hL hd hg (fh hl) _ _ _ _ FA ?_ (by simp[b]) (fun k f _=>by omega) ?_ (wpAny_of_held _ _ _ _ (h hS)))
 ·intro j o d e;have c:=(Array.getElem?_eq_some_iff.1 d).1;simp[c] at e
 ·rw[Array.toList_replicate,List.countP_replicate];simp
end
end Tl
namespace Kd
open Go.RowKit Go.ChangeShapes Go.WideShapes Go.Deep
theorem gi{w:World}{a:Addr}{v:Value}(h:w.cell? a=some v):a.spot=none:=by
 unfold World.cell? at h;split at h
 ·split at h
  ·cases h
  ·rename_i hs;simpa using hs
 ·cases h
theorem ny{H:Type}{enc:TypeId×Value->H}{P:Program}{f:Func}{s:ChangeSpec}{W W':World}{args:Array Value}{v:Value}{ds gs:List (DataW H)}{before:List MemPlace}
 (hW:DataW.Whole enc P f.params.toList s.vars false W args.toList ds gs before)
 (hres:DataW.TrodAll enc P W' W.heap.size (fun _=>false) false f.resultTypes.toList (v.resultList f.resultTypes.size) (s.fn H (ds++gs)).results [])
 (hargs:DataW.TrodAll enc P W' 0 (fun b=>decide (b<W.heap.size)) true f.params.toList args.toList (s.fn H (ds++gs)).args before)
 (hvars:DataW.TrodVars enc P W' (fun b=>decide (b<W.heap.size)) s.vars (s.fn H (ds++gs)).vars [])
 (hb:fA W W'):s.post enc P f false true false false W args v W':=
 ⟨ds,gs,before,[],before,[],hW,hres,hargs,hvars,World.keptBut_mono (fun _ a=>⟨a,.inr (.inl a)⟩) (hb.frame (·∈before)),fun h=>by cases h⟩
end Kd
namespace P19
open P5
abbrev Sg:=D×List Rc
def LA(s:Sg)(r:Rc):Sg:=((YA s.1 r).2,if(YA s.1 r).1=0 then s.2++[r] else s.2)
def vB(left:List Int)(beh:Int):Int:=match left with
 |[]=>beh
 |i:: _=>i
def e0:qA:=⟨#[]⟩
def LB(i p b:Int):Rc:=⟨2,i,p,b,e0,e0,e0,[]⟩
def ZC(i:Int):Rc:=⟨3,i,0,0,e0,e0,e0,[]⟩
def MC(i:Int)(a:List P3.At):Rc:=⟨4,i,0,0,e0,e0,e0,a⟩
def AE(i:Int)(t:qA):Rc:=⟨5,i,0,0,e0,t,e0,[]⟩
def sB(i:Int)(tag txt key:qA):Rc:=⟨1,i,0,0,tag,txt,key,[]⟩
def VE(par b:Int)(l:List Int)(s:Sg):Sg:=l.foldl (fun s i=>LA s (LB i par b)) s
def cC(l:List Int)(s:Sg):Sg:=l.foldl (fun s i=>LA s (ZC i)) s
def aD(s:Sg)(par:Int)(left:List Int)(beh id:Int)(k:Nat):Sg×List Int:=
 (if k=0 then s
  else if inside s.1.l s.1.nB id=false then LA s (LB id par (vB left 0))
  else VE par (vB (left.drop (k+1)) beh) (left.take k) s,left.take k++left.drop (k+1))
theorem qE{s:Sg}(h:WF s.1)(r:Rc):WF (LA s r).1:=jN h r
theorem wR(d:D)(r:Rc):(YA d r).2.n<=d.n+1/\d.n<=(YA d r).2.n:=by
 unfold YA;split
 ·unfold rE;split
  ·simp;omega
  ·split
   ·simp;omega
   ·exact⟨Int.le_refl _,by simp;omega⟩
 split
 ·unfold YD;split<;>simp<;>omega
 split
 ·unfold uF;split
  ·simp;omega
  ·split<;>simp<;>omega
 split
 ·unfold XD;split
  ·simp;omega
  split
  ·simp;omega
  split<;>simp<;>omega
 split
 ·unfold nF;split
  ·simp;omega
  split
  ·simp;omega
  split<;>simp<;>omega
 ·simp;omega
theorem Y0{d:D}{r:Rc}(h:r.op≠1):(YA d r).2.n=d.n:=by
 unfold YA;rw[if_neg h];split
 ·unfold YD;split<;>rfl
 split
 ·unfold uF;split
  ·rfl
  ·split<;>rfl
 split
 ·unfold XD;split
  ·rfl
  split
  ·rfl
  split<;>rfl
 split
 ·unfold nF;split
  ·rfl
  split
  ·rfl
  split<;>rfl
 ·rfl
theorem xR(par b:Int):∀(l:List Int) {s:Sg},WF s.1->WF (VE par b l s).1/\(VE par b l s).1.n=s.1.n/\(VE par b l s).2.length<=s.2.length+l.length
 |[],_,h=>⟨h,rfl,by simp[VE]⟩
 |i:: l,s,h=>by
  have h1:=qE h (LB i par b);obtain⟨h2,h3,h4⟩:=xR par b l h1;refine⟨h2,h3.trans (Y0 (r:=LB i par b) (show(2:Int)≠1 by decide)),?_⟩;show(VE par b l (LA s (LB i par b))).2.length<=_;have h5:(LA s (LB i par b)).2.length<=s.2.length+1:=(by unfold LA;simp only;split<;>simp);simp only[List.length_cons];omega
theorem Gi(par b:Int)(l:List Int)(i:Int)(s:Sg):VE par b (l++[i]) s=LA (VE par b l s) (LB i par b):=by
 unfold VE;rw[List.foldl_append];rfl
end P19
end Go.Proofs.YtimfajmknmlajaaGreatDoor
