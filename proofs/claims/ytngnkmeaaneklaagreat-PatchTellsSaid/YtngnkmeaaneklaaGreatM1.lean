/- A part of the proof. No condition. -/
import Derived.WalkKit
import Derived.ProofKit
import Derived.Lib.Hide
import Derived.Deep.RegionHeld3
import Derived.Laws.Rows
import Derived.Test.YtngnkmeaaneklaaGreatProg
import Derived.Outline
import Derived.WalkLawsBesides
import Derived.WalkSpells
import Derived.OwnWalk
import Derived.Below
import Derived.Maps.AppendAt
import Derived.Laws.AppendOwnNone
import Derived.Laws.OwnMore
import Derived.Deep.AppendLies
import Derived.Deep.QuietTactic
import Derived.BigQuiet
import Derived.Test.YtngnkmeaaneklaaGreatChecked
import Derived.Laws.LoneSync
import Derived.Deep.RegionLaw
import Derived.Lib.SliceRun
import Derived.Laws.StructEq
import Derived.Shelf.Spec.SlicesInsertGrow
import Derived.Lib.IfaceEq
import Derived.WideLaws
set_option linter.unusedVariables false
set_option linter.unusedSimpArgs false
set_option maxRecDepth 100000
set_option maxHeartbeats 40000000
namespace Go.Proofs.YtngnkmeaaneklaaGreat
open Tryz
open Go.RowKit
theorem Zb(w:World)(o:Obj):Below w.heap.size w (w.alloc o):=(Below.refl _ _).alloc (Nat.le_refl _) _
theorem Zl{n:Nat}:n≤n:=Nat.le_refl n
theorem Ze{B:Nat}{a:World}:Below B a a:=Below.refl _ _
theorem Zh{p:Prop}(h:p):Hid p:=h
theorem Zs:(∀(a:Act) (o:Option Nat) (v:Value),a.put o v=match o with|some d=>{a with tmps:=a.tmps.setIfInBounds d v}|none=>a)∧(∀(l:List Value) (i:Nat) (v:Value),l.toArray.setIfInBounds i v=(l.set i v).toArray)∧(∀(x v:Value) (l:List Value),(x:: l).set 0 v=v:: l)∧(∀(x v:Value) (l:List Value) (i:Nat),(x:: l).set (i+1) v=x:: l.set i v)∧(∀(l:List Bool) (i:Nat) (v:Bool),l.toArray.setIfInBounds i v=(l.set i v).toArray)∧(∀(x v:Bool) (l:List Bool),(x:: l).set 0 v=v:: l)∧(∀(x v:Bool) (l:List Bool) (i:Nat),(x:: l).set (i+1) v=x:: l.set i v):=
 ⟨fun a o v=>by cases o<;>rfl,fun l i v=>List.setIfInBounds_toArray ..,fun _ _ _=>rfl,fun _ _ _ _=>rfl,fun l i v=>List.setIfInBounds_toArray ..,fun _ _ _=>rfl,fun _ _ _ _=>rfl⟩
theorem Zt(i d:Nat){P:Program}{ops:Array Oper}{Q:Exit→Act→World→Prop}{md:Region.Mode}{S:World→Prop}{oi:Oper}{v:Value}{fuel:Nat}{listed:Array Bool}{a:Act}{w:World}
 {L:Array Bool} {a':Act} (h:wpAnyH P md ops Q S fuel L a' w) (hi:ops[i]? = some oi:=by rfl) (hd:oi.dst=some d:=by rfl) (hs:Region.noSelect ops=true:=by kernel_rfl) (hf:Region.free md ops listed i=true:=by kernel_rfl) (hr:(Region.ready md ops listed).contains i=true:=by kernel_rfl)
 (hQ:∀c a w,Q (.panic c) (a.put (some d) v) w→Q (.panic c) a w:=by exact fun _ _ _ h=>h) (hy:YieldsIf P ops S oi v a:=by exact Or.inl ⟨by rfl,by intro w' hSw;(try dsimp only at hSw);go_simp;try with_reducible rfl⟩) (hS:S w:=by assumption) (eL:listed.setIfInBounds i true=L:=by(try simp only[Zs]);rfl) (ea:a.put (some d) v=a':=by(try simp only[Zs]);rfl):wpAnyH P md ops Q S (fuel+1) listed a w:=
 wpAnyH_take hi hs hf hr (by rw[hd];exact hQ) hy hS (by rw[hd,eL,ea];exact h)
theorem Zn(i:Nat){P:Program}{ops:Array Oper}{Q:Exit→Act→World→Prop}{md:Region.Mode}{S:World→Prop}{oi:Oper}{v:Value}{fuel:Nat}{listed:Array Bool}{a:Act}{w:World}
 {L:Array Bool} {a':Act} (h:wpAnyH P md ops Q S fuel L a' w) (hi:ops[i]? = some oi:=by rfl) (hs:Region.noSelect ops=true:=by kernel_rfl) (hf:Region.free md ops listed i=true:=by kernel_rfl) (hr:(Region.ready md ops listed).contains i=true:=by kernel_rfl)
 (hQ:∀c a w,Q (.panic c) (a.put oi.dst v) w→Q (.panic c) a w:=by exact fun _ _ _ h=>h) (hy:YieldsIf P ops S oi v a:=by exact Or.inl ⟨by rfl,by intro w' hSw;(try dsimp only at hSw);go_simp;try with_reducible rfl⟩) (hS:S w:=by assumption) (eL:listed.setIfInBounds i true=L:=by(try simp only[Zs]);rfl) (ea:a.put oi.dst v=a':=by(try simp only[Zs]);rfl):wpAnyH P md ops Q S (fuel+1) listed a w:=
 wpAnyH_take hi hs hf hr hQ hy hS (by rw[eL,ea];exact h)
theorem Zi(i d:Nat){P:Program}{ops:Array Oper}{Q:Exit→Act→World→Prop}{md:Region.Mode}{S:World→Prop}{oi:Oper}{fuel:Nat}{listed:Array Bool}{a:Act}{w:World}
 {L:Array Bool} {a':Act} (h:wpAnyH P md ops Q S fuel L a' w) (hi:ops[i]? = some oi:=by rfl) (hd:oi.dst=some d:=by rfl) (hs:Region.noSelect ops=true:=by kernel_rfl) (hf:Region.free md ops listed i=true:=by kernel_rfl) (hr:(Region.ready md ops listed).contains i=true:=by kernel_rfl)
 (hQ:∀c a w,Q (.panic c) (a.put (some d) undef) w→Q (.panic c) a w:=by exact fun _ _ _ h=>h) (hy:YieldsIf P ops S oi undef a:=by exact Or.inr ⟨by rfl,rfl⟩) (hS:S w:=by assumption) (eL:listed.setIfInBounds i true=L:=by(try simp only[Zs]);rfl) (ea:a.put (some d) undef=a':=by(try simp only[Zs]);rfl):wpAnyH P md ops Q S (fuel+1) listed a w:=
 wpAnyH_take hi hs hf hr (by rw[hd];exact hQ) hy hS (by rw[hd,eL,ea];exact h)
theorem Zr(rs:List Nat){P:Program}{ops:Array Oper}{Q:Exit→Act→World→Prop}{md:Region.Mode}{S:World→Prop}{fuel:Nat}{listed:Array Bool}{a:Act}{w:World}(h:AllReadyH P md ops Q S fuel listed a w rs)(hr:Region.ready md ops listed=rs:=by kernel_rfl)(hne:rs≠[]:=by simp):wpAnyH P md ops Q S (fuel+1) listed a w:=wpAnyH_ready hr hne h
theorem cA{p:Prop}(h:p:=by omega):p:=h
theorem nA{p:Prop}(h:p:=by decide):p:=h
theorem DA{p:Prop}(h:p:=by simp):p:=h
theorem AA{p:Prop}(h:p:=by simp;omega):p:=h
theorem uA{a p:Prop}(h:a)(k:a→p:=by intro this;omega):p:=k h
theorem qA{α:Sort _}(a:α):∃k,a=k:=⟨a,rfl⟩
theorem IA(i:Nat){w:World}{g:Nat}{cur:Array Value}{t:TypeId}{fr:Nat×Nat}{v:Value}(h:w.heap[g]? = some (.cells cur t fr))(hv:cur[i]? = some v:=by rfl):w.cell? ⟨g,i,none⟩=some v:=(cell_of_row w g i cur t fr h).trans hv
abbrev aA (x:Int):Value:=.int .i64 x
abbrev bA (x:ByteArray):Value:=.string x
abbrev dA (b i:Nat):Addr:=⟨b,i,none⟩
abbrev iA (b:Nat):Value:=.pointer (some ⟨b,0,none⟩)
abbrev eA(w w':World):Prop:=Below w.heap.size w w'
abbrev QD:Array Value:=#[.int .i64 0,.int .i64 0,.string ⟨#[]⟩,.string ⟨#[]⟩,.string ⟨#[]⟩,.slice none 0 0,.slice none 0 0,.int .i64 0]
theorem RB{p:Prop}(h:p:=by intro e;cases e):p:=h
theorem wD{p:Prop}(h:p:=by unfold maxLen;omega):p:=h
theorem sF{C:Nat}{w w':World}(h:Below C w w':=by first|exact PA (Below.refl _ _) _|exact(Below.refl _ _).drew|exact Below.refl _ _):Below C w w':=h
theorem zA{P:Program}{f:FuncId}{args:Array Value}{w:World}{e0:Ending}{R:Ending→World→Prop}(h:Calls P f args w (fun e w'=>e=e0∧w=w'))(k:R e0 w):Calls P f args w R:=h.mono (by rintro _ _ ⟨rfl,rfl⟩;exact k)
abbrev tA:Value:=.string ⟨#[]⟩
abbrev vA:Value:=.slice none 0 0
abbrev jA:=Option Addr
abbrev wA:=ByteArray
abbrev KA:=List UInt8
abbrev Yt(w:World):Nat:=w.heap.size
open Go.RowKit
abbrev fA(f:FuncId)(a:Array Value)(w:World)(R:Ending→World→Prop):Prop:=Calls Tryz.prog f a w R
namespace Kd
open Go.RowKit
structure gA(S:Nat->Prop)(a w:World):Prop where
 os:w.os=a.os
 tape:w.tape=a.tape
 output:w.output=a.output
 size:a.heap.size<=w.heap.size
 block:∀k,k<a.heap.size->¬S k->w.heap[k]? = a.heap[k]?
section
variable{S T:Nat->Prop}{a w w':World}
theorem gA.refl(S:Nat->Prop)(a:World):gA S a a:=⟨rfl,rfl,rfl,Zl,fun _ _ _=>rfl⟩
theorem gA.trans(h:gA S a w)(k:gA T w w')(hT:∀i,i<a.heap.size->T i->S i):gA S a w':=
 ⟨k.os.trans h.os,k.tape.trans h.tape,k.output.trans h.output,Nat.le_trans h.size k.size,fun i b c=>(k.block i (Nat.lt_of_lt_of_le b h.size) (fun d=>c (hT i b d))).trans (h.block i b c)⟩
theorem gA.mono(h:gA S a w)(hS:∀i,i<a.heap.size->S i->T i):gA T a w:=⟨h.os,h.tape,h.output,h.size,fun i b c=>h.block i b (fun d=>c (hS i b d))⟩
theorem gA.tB(h:eA a w)(S:Nat->Prop):gA S a w:=⟨h.os,h.tape,h.output,h.size,fun i b _=>h.block i b⟩
theorem gA.sG{row:Option Nat}(h:a.grownBy w row)(hr:∀g,row=some g->g<a.heap.size->S g):gA S a w:=⟨h.os,h.tape,h.output,h.size,fun i b c=>h.block i b (fun e=>c (hr i e.symm b))⟩
theorem gA.drewN(h:gA S a w)(n:Nat):gA S a (w.drewN n):=⟨h.os,h.tape,h.output,h.size,h.block⟩
theorem gA.drew(h:gA S a w):gA S a w.drew:=⟨h.os,h.tape,h.output,h.size,h.block⟩
theorem gA.alloc(h:gA S a w)(o:Obj):gA S a (w.alloc o):=
 ⟨h.os,h.tape,h.output,Nat.le_trans h.size DA,fun i b c=>(Below.heap_alloc w o i (Nat.lt_of_lt_of_le b h.size)).trans (h.block i b c)⟩
theorem gA.setCell(h:gA S a w){p:Addr}(hp:p.block<a.heap.size->S p.block)(u:Value):gA S a (w.setCell p u):=
 ⟨h.os,h.tape,h.output,by simpa[World.setCell] using h.size,fun i b c=>(Below.heap_setCell w p u i (by rintro rfl;exact c (hp b))).trans (h.block i b c)⟩
theorem gA.AB{B:Nat}(h:gA S a w)(hS:∀i,i<a.heap.size->S i->B<=i)(hB:B<=a.heap.size):Below B a w:=
 ⟨h.os,h.tape,h.output,h.size,fun i c=>h.block i cA (fun b=>by have:=hS i cA b;omega)⟩
theorem PA{B:Nat}(h:Below B a w)(n:Nat):Below B a (w.drewN n):=⟨h.os,h.tape,h.output,h.size,h.block⟩
end
theorem FA{w:World}{g:Nat}{o:Obj}(h:w.heap[g]? = some o):g<w.heap.size:=by
 rcases Nat.lt_or_ge g w.heap.size with hlt|hge
 ·exact hlt
 ·rw[Array.getElem?_eq_none hge] at h;cases h
theorem RA{w:World}{g g':Nat}{t t':TypeId}{c c':Array Value}{f f':Nat×Nat}(h:w.heap[g]? = some (.cells c t f))(h':w.heap[g']? = some (.cells c' t' f'))(hne:t≠t'):g≠g':=by
 rintro rfl;rw[h] at h';injection h' with h';injection h' with _ ht;exact hne ht
theorem oB{w:World}{o x:Obj}{g:Nat}(h:w.heap[g]? = some x):(w.alloc o).heap[g]? = some x:=(Below.heap_alloc w o g (FA h)).trans h
theorem heap_set{w:World}{g:Nat}{cur:Array Value}{t:TypeId}{fr:Nat×Nat}(h:w.heap[g]? = some (.cells cur t fr))(o:Nat)(u:Value):(w.setCell (dA g o) u).heap[g]? = some (.cells (cur.setIfInBounds o u) t fr):=by
 simp[World.setCell,Array.getElem?_modify,h]
theorem FH(g:Nat):∀(vs:List Value) (o:Nat) (w:World) (cur:Array Value) (t:TypeId) (fr:Nat×Nat),w.heap[g]? = some (.cells cur t fr)->
 ∃cur',(w.setCells g o vs).heap[g]? = some (.cells cur' t fr)/\cur'.size=cur.size/\∀k,k<cur.size->cur'[k]? = if o<=k/\k<o+vs.length then vs[k-o]? else cur[k]?
 |[],o,w,cur,t,fr,h=>⟨cur,h,rfl,fun k _=>by rw[if_neg (by simp only[List.length_nil];omega)]⟩
 |v:: r,o,w,cur,t,fr,h=>by
  obtain⟨cur',h1,h2,h3⟩:=FH g r (o+1) _ _ _ _ (heap_set h o v);refine⟨cur',h1,by rw[h2,Array.size_setIfInBounds],fun k hk=>?_⟩;rw[h3 k (by rw[Array.size_setIfInBounds];exact hk),List.length_cons];by_cases e:k=o
  ·subst e;rw[if_neg cA,if_pos cA,Nat.sub_self,Array.getElem?_setIfInBounds_self_of_lt hk];rfl
  ·by_cases hr:o+1<=k/\k<o+1+r.length
   ·rw[if_pos hr,if_pos cA,show k-o=k-(o+1)+1 by omega,List.getElem?_cons_succ]
   ·rw[if_neg hr,if_neg cA,Array.getElem?_setIfInBounds_ne (Ne.symm e)]
theorem MR(g:Nat){k:Nat}(hk:k≠g):∀(vs:List Value) (o:Nat) (w:World),(w.setCells g o vs).heap[k]? = w.heap[k]?
 |[],_,_=>rfl
 |v:: r,o,w=>by rw[World.setCells,MR g hk r,Below.heap_setCell w _ _ _ hk]
theorem ZV(g:Nat):∀(vs:List Value) (o:Nat) (w:World),(w.setCells g o vs).os=w.os/\(w.setCells g o vs).tape=w.tape/\(w.setCells g o vs).output=w.output/\(w.setCells g o vs).heap.size=w.heap.size
 |[],_,_=>⟨rfl,rfl,rfl,rfl⟩
 |v:: r,o,w=>by
  obtain⟨h1,h2,h3,h4⟩:=ZV g r (o+1) (w.setCell (dA g o) v);exact⟨h1,h2,h3,h4.trans (by simp[World.setCell])⟩
theorem gA.setCells{S:Nat->Prop}{a w:World}{g:Nat}(h:gA S a w)(hg:g<a.heap.size->S g)(o:Nat)(vs:List Value):gA S a (w.setCells g o vs):=by
 obtain⟨d,e,f,j⟩:=ZV g vs o w;refine⟨d.trans h.os,e.trans h.tape,f.trans h.output,by rw[j];exact h.size,fun i b c=>?_⟩;rw[MR g (by rintro rfl;exact c (hg b))];exact h.block i b c
structure Kind(P:Program)(α:Type) where
 t:TypeId
 e:TypeId
 size:Nat
 bytes:Nat
 z:Value
 cs:α->List Value
 ht:P.underlying t=some (.slice e)
 info:∃i,P.info? e=some i/\i.zero=some z/\i.size=size/\i.bytes=bytes
 QG:z.cells.size=size
 wF:0<size
 RG:bytes<=256
 len:∀a,(cs a).length=size
 one:∀a,∀u∈cs a,u.oneCell'=true
section
variable{P:Program}{α:Type}(K:Kind P α)
def Kind.cells(l:List α):List Value:=l.flatMap K.cs
theorem Kind.fH(l:List α):(K.cells l).length=l.length*K.size:=by
 induction l with
 |nil=>simp[Kind.cells]
 |cons a l ih=>
  simp only[Kind.cells,List.flatMap_cons,List.length_append,List.length_cons] at ih|-;rw[ih,K.len,Nat.succ_mul,Nat.add_comm]
theorem Kind.yK(l m:List α):K.cells (l++m)=K.cells l++K.cells m:=by simp[Kind.cells]
theorem Kind.uN(l:List α)(k:Nat):K.cells (l.take k)=(K.cells l).take (k*K.size):=by
 rcases Nat.lt_or_ge k l.length with h|h
 ·have e:K.cells l=K.cells (l.take k)++K.cells (l.drop k):=(by rw[<-Kind.yK,List.take_append_drop]);have a:(K.cells (l.take k)).length=k*K.size:=(by rw[Kind.fH,List.length_take,Nat.min_eq_left cA]);rw[e,<-a,List.take_left]
 ·rw[List.take_of_length_le h,List.take_of_length_le];rw[Kind.fH];exact Nat.mul_le_mul_right _ h
theorem Kind.vN(l:List α)(k:Nat):K.cells (l.drop k)=(K.cells l).drop (k*K.size):=by
 rcases Nat.lt_or_ge k l.length with h|h
 ·have e:K.cells l=K.cells (l.take k)++K.cells (l.drop k):=(by rw[<-Kind.yK,List.take_append_drop]);have a:(K.cells (l.take k)).length=k*K.size:=(by rw[Kind.fH,List.length_take,Nat.min_eq_left cA]);rw[e,<-a,List.drop_left]
 ·rw[List.drop_eq_nil_of_le h,List.drop_eq_nil_of_le]
  ·rfl
  ·rw[Kind.fH];exact Nat.mul_le_mul_right _ h
theorem Kind.aK(l:List α)(k:Nat)(h:k<l.length)(j:Nat)(hj:j<K.size):(K.cells l)[k*K.size+j]? = (K.cs l[k])[j]?:=by
 have e:K.cells (l.drop k)=K.cs l[k]++K.cells (l.drop (k+1)):=by
  show(l.drop k).flatMap K.cs=K.cs l[k]++(l.drop (k+1)).flatMap K.cs;rw[List.drop_eq_getElem_cons h,List.flatMap_cons]
 have:=congrArg (fun x=>x[j]?) e;simp only[Kind.vN,List.getElem?_drop] at this;rw[this,List.getElem?_append_left (by rw[K.len];exact hj)]
theorem Kind.xP(l:List α):∀u∈K.cells l,u.oneCell'=true:=by
 intro u b;obtain⟨a,_,c⟩:=List.mem_flatMap.1 b;exact K.one a u c
def Kind.pA(w:World)(B:Nat)(A:jA)(l:List α):Prop:=
 ∀j u,(K.cells l)[j]? = some u->∃b o,A=some (dA b o)/\b<B/\w.cell? ⟨b,o+j,none⟩=some u
variable{K}{w w':World}{B:Nat}{A:jA}{l:List α}
theorem Kind.pA.sB(h:K.pA w B A l)(hk:∀b,(∃o,A=some (dA b o))->b<B->w'.heap[b]? = w.heap[b]?):K.pA w' B A l:=by
 intro j u c;obtain⟨b,o,rfl,a,d⟩:=h j u c;exact⟨b,o,rfl,a,(World.cell?_of_block (hk b ⟨o,rfl⟩ a)).trans d⟩
theorem Kind.pA.below{C:Nat}(h:K.pA w B A l)(hb:Below C w w')(hBC:B<=C):K.pA w' B A l:=h.sB fun b _ a=>hb.block b cA
theorem Kind.pA.more{B':Nat}(h:K.pA w B A l)(hB:B<=B'):K.pA w B' A l:=by
 intro j u a;obtain⟨b,o,c,e,d⟩:=h j u a;exact⟨b,o,c,by omega,d⟩
theorem Kind.pA.on(h:K.pA w w.heap.size A l)(hb:eA w w'):K.pA w' w'.heap.size A l:=(h.below hb Zl).more hb.size
theorem Kind.pA.drewN(h:K.pA w B A l)(n:Nat):K.pA (w.drewN n) B A l:=h
theorem Kind.pA.drew(h:K.pA w B A l):K.pA w.drew B A l:=h
theorem Kind.pA.nil(w:World)(B:Nat)(A:jA):K.pA w B A []:=fun j u a=>by simp[Kind.cells] at a
theorem Kind.pA.at(h:K.pA w B A l){k:Nat}(hk:k<l.length):∃b o,A=some (dA b o)/\b<B/\∀j u,(K.cs l[k])[j]? = some u->w.cell? ⟨b,o+(k*K.size+j),none⟩=some u:=by
 have key:∀j u,(K.cs l[k])[j]? = some u->(K.cells l)[k*K.size+j]? = some u:=fun j u a=>by
  have:=(List.getElem?_eq_some_iff.1 a).1;rw[K.len] at this;rw[K.aK l k hk j this,a]
 obtain⟨d,e⟩:∃u,(K.cs l[k])[0]? = some u:=⟨(K.cs l[k])[0]'(by rw[K.len];exact K.wF),List.getElem?_eq_getElem _⟩;obtain⟨b,o,rfl,f,_⟩:=h _ _ (key 0 d e);refine⟨b,o,rfl,f,fun j u a=>?_⟩;obtain⟨i,m,c,_,g⟩:=h _ _ (key j u a);injection c with c;injection c with e1 e2;subst e1;subst e2;exact g
theorem Kind.pA.take(h:K.pA w B A l)(n:Nat):K.pA w B A (l.take n):=by
 intro j u a;rw[K.uN,List.getElem?_take] at a;split at a
 ·exact h j u a
 ·cases a
theorem Kind.pA.drop{b o:Nat}(h:K.pA w B (some (dA b o)) l)(k:Nat):K.pA w B (some ⟨b,o+k*K.size,none⟩) (l.drop k):=by
 intro j u c;rw[K.vN,List.getElem?_drop] at c;obtain⟨f,g,a,d,e⟩:=h _ _ c;injection a with a;injection a with e1 e2;subst e1;subst e2;exact⟨b,_,rfl,d,by rw[Nat.add_assoc];exact e⟩
theorem Kind.pA.lit{g:Nat}{t:TypeId}{fr:Nat×Nat}{c:Array Value}(h:w.heap[g]? = some (.cells c t fr))(hc:c.toList=K.cells l):K.pA w (g+1) (some (dA g 0)) l:=by
 intro j u a;refine⟨g,0,rfl,by omega,?_⟩;rw[Nat.zero_add,cell_of_row w g j c t fr h,<-Array.getElem?_toList,hc];exact a
variable{v:Value}
def Kind.Own(K:Kind P α)(w:World)(B:Nat)(v:Value)(l:List α):Prop:=w.ownsRow B K.e K.size v l.length (K.cells l)
theorem Kind.Own.nil(K:Kind P α)(w:World)(B:Nat):K.Own w B (vA) []:=World.ownsRow_nil w B K.e K.size
theorem Kind.Own.made(K:Kind P α)(w:World)(B:Nat)(hB:B<=w.heap.size):K.Own (w.alloc (.cells #[] K.e)) B (.slice (some ⟨w.heap.size,0,none⟩) 0 0) []:=
 World.ownsRow_made (size:=K.size) w #[] 0 hB (by simp[maxLen]) DA
theorem Kind.Own.lt(h:K.Own w B v l){g:Nat}(hg:v.ownBlock=some g):B<=g/\g<w.heap.size:=World.ownsRow.lt h g hg
theorem Kind.Own.ty(h:K.Own w B v l){g:Nat}(hg:v.ownBlock=some g):∃cur,w.heap[g]? = some (.cells cur K.e (0,0)):=by
 rcases h.2 with⟨rfl,_⟩|⟨g',cap,cur,rfl,_,hh,_⟩
 ·cases hg
 ·have:g'=g:=(by simpa[Value.ownBlock] using hg);subst this;exact⟨cur,hh⟩
theorem Kind.Own.sB(h:K.Own w B v l)(hk:∀g,v.ownBlock=some g->w'.heap[g]? = w.heap[g]?):K.Own w' B v l:=by
 obtain⟨b,a⟩:=h;refine⟨b,?_⟩;rcases a with a|⟨g,cap,cur,hv,hg,hh,r⟩
 ·exact .inl a
 ·subst hv;exact .inr ⟨g,cap,cur,rfl,hg,(hk g rfl).trans hh,r⟩
theorem Kind.Own.but{S:Nat->Prop}(h:K.Own w B v l)(hb:gA S w w')(hS:∀g,v.ownBlock=some g->¬S g):K.Own w' B v l:=
 h.sB fun g a=>hb.block g (h.lt a).2 (hS g a)
theorem Kind.Own.below{C:Nat}(h:K.Own w B v l)(hb:Below C w w')(hC:w.heap.size<=C):K.Own w' B v l:=h.sB fun g a=>hb.block g (uA ((h.lt a).2))
theorem Kind.Own.grown{row:Option Nat}(h:K.Own w B v l)(hg:w.grownBy w' row)(hr:∀g,v.ownBlock=some g->row≠some g):K.Own w' B v l:=h.sB fun g e=>hg.block g (h.lt e).2 (fun c=>hr g e c.symm)
theorem Kind.Own.alloc(h:K.Own w B v l)(o:Obj):K.Own (w.alloc o) B v l:=World.ownsRow.alloc h o
theorem Kind.Own.drewN(h:K.Own w B v l)(n:Nat):K.Own (w.drewN n) B v l:=h
theorem Kind.Own.drew(h:K.Own w B v l):K.Own w.drew B v l:=h
theorem Kind.Own.dE{B':Nat}(h:K.Own w B v l)(hb:B'<=B):K.Own w B' v l:=by
 obtain⟨b,a⟩:=h;refine⟨b,?_⟩;rcases a with a|⟨g,cap,cur,hv,hg,r⟩
 ·exact .inl a
 ·exact .inr ⟨g,cap,cur,hv,by omega,r⟩
theorem Kind.Own.form(h:K.Own w B v l):(v = vA/\l=[])\/∃g c cur,v= .slice (some (dA g 0)) l.length c/\v.ownBlock=some g/\B<=g/\g<w.heap.size/\w.heap[g]? = some (.cells cur K.e (0,0))/\l.length<=c/\c<=maxLen/\cur.size=c*K.size/\cur.toList.take (l.length*K.size)=K.cells l:=by
 rcases h.2 with⟨rfl,hn⟩|⟨g,cap,cur,rfl,hg,hh,r1,r2,r3,r4⟩
 ·exact .inl ⟨rfl,List.eq_nil_of_length_eq_zero hn⟩
 ·exact .inr ⟨g,cap,cur,rfl,rfl,hg,FA hh,hh,r1,r2,r3,r4⟩
theorem Kind.wG{g c n:Nat}{cur:Array Value}(hl:l.length=n)(hg:B<=g)(hh:w.heap[g]? = some (.cells cur K.e (0,0)))(h1:n<=c)(h2:c<=maxLen)(h3:cur.size=c*K.size)(h4:cur.toList.take (n*K.size)=K.cells l):K.Own w B (.slice (some (dA g 0)) n c) l:=by
 subst hl;exact⟨K.fH l,.inr ⟨g,c,cur,rfl,hg,hh,h1,h2,h3,h4⟩⟩
theorem Kind.Own.slice(h:K.Own w B v l):∃A n c,v= .slice A n c/\l.length=n/\n<=c/\c<=maxLen/\(A=Option.none->c=0)/\K.pA w w.heap.size A l:=by
 rcases h.form with⟨rfl,rfl⟩|⟨g,c,cur,rfl,_,_,hlt,hh,zC,cC,hcs,ht⟩
 ·exact⟨Option.none,0,0,rfl,rfl,by omega,by unfold maxLen;omega,fun _=>rfl,Kind.pA.nil _ _ _⟩
 ·refine⟨_,l.length,c,rfl,rfl,zC,cC,fun e=>(by cases e),fun j u a=>⟨g,0,rfl,hlt,?_⟩⟩;rw[Nat.zero_add,cell_of_row w g j _ _ _ hh,<-Array.getElem?_toList];rw[<-ht,List.getElem?_take] at a;split at a
  ·exact a
  ·cases a
def gE(v u:Value):Prop:=∀g,v.ownBlock=some g->u.ownBlock≠some g
theorem gE.symm{v u:Value}(h:gE v u):gE u v:=fun g a e=>h g e a
theorem Kind.Own.KV{β:Type}{J:Kind P β}{m:List β}{u:Value}{B':Nat}(h:K.Own w B v l)(h':J.Own w B' u m)(hne:K.e≠J.e):gE v u:=fun g a e=>by
 obtain⟨c,b⟩:=h.ty a;obtain⟨d,f⟩:=h'.ty e;exact RA b f hne rfl
theorem Kind.Own.Es{g n c o:Nat}{m:List α}{u:Value}(h:K.Own w B (.slice (some (dA g 0)) n c) l)(hl:l.length=n)(hm:m.length=l.length)(hc:K.cells m=(K.cells l).set o u):K.Own (w.setCell (dA g o) u) B (.slice (some (dA g 0)) n c) m:=by
 rcases h.form with⟨hv,_⟩|⟨g',c',cur,hv,_,hg,hlt,hh,h1,h2,h3,h4⟩
 ·cases hv
 ·injection hv with e1 e2 e3;injection e1 with e1;injection e1 with e1;subst e1;subst e3;refine Kind.wG cA hg (heap_set hh o u) cA h2 (by rw[Array.size_setIfInBounds,h3]) ?_;rw[Array.toList_setIfInBounds,List.take_set,<-hl,h4,hc]
theorem Kind.Am(ty:TypeId){n c:Nat}{m:List α}(hown:K.Own w B v l){C:Nat}(hn:m.length=n)(hc:A=none->c=0)(hm:K.pA w C A m)
 (hl:l.length+n<=1000000000) (hbase:B<=w.heap.size):
 ∃v' w',(Builtin.append_ #[K.t,K.t] ty #[v,.slice A n c]).run P w= .ok v' w'/\K.Own w' B v' (l++m)/\w.grownBy w' v.ownBlock/\(v'.ownBlock=v.ownBlock\/v'.ownBlock=some w.heap.size):=by
 obtain⟨s,t,g,i,p⟩:=K.info;have x:=K.RG;subst hn;cases A with
 |none=>
  have q:m=[]:=by
   cases m with
   |nil=>rfl
   |cons b r=>
    obtain⟨_,_,d,_⟩:=hm.at (k:=0) DA;cases d
  subst q;rw[hc rfl];exact⟨v,w,run_append_owned_none (P:=P) (w:=w) B K.t ty K.e s K.size K.ht t v _ _ hown,by simpa using hown,World.grownBy.refl _ _,.inl rfl⟩
 |some ad=>
  obtain⟨v',w',y,z,D,_,E⟩:=run_append_own_at (P:=P) w B K.t ty K.e s K.z K.size K.bytes K.ht t g i p K.QG K.wF v l.length (K.cells l) hown ad m.length c (K.cells m) (K.fH m) (fun j u F=>by
   obtain⟨b,o,d,_,a⟩:=hm j u F;injection d with d;subst d;have f:(⟨b,o,Option.none⟩:Addr).add j=⟨b,o+j,Option.none⟩:=by
    unfold Addr.add;split
    ·rename_i e;subst e;rfl
    ·rfl
   rw[f];exact a) (K.xP m) wD (by have:=Nat.mul_le_mul (Nat.le_of_lt_succ (Nat.lt_succ_of_le hl)) x;omega) hbase
  refine⟨v',w',y,?_,D,E⟩;unfold Kind.Own;rw[List.length_append,K.yK];exact z
theorem Kind.p7{o:Oper}{a:Act}{Kk:Act->World->Prop}{Q:Exit->Act->World->Prop}(s x:Operand)
 (ho:o.op= .call {callee:=.builtin .append,args:=#[s,x],argTypes:=#[K.t,K.t]})
 {n c:Nat} {m:List α} {C:Nat} (hs:a.eval s=v) (hown:K.Own w B v l) (hx:a.eval x= .slice A n c) (hn:m.length=n) (hc:A=none->c=0) (hm:K.pA w C A m)
 (hl:l.length+n<=1000000000) (hbase:B<=w.heap.size)
 (h:∀v' w',K.Own w' B v' (l++m)->w.grownBy w' v.ownBlock->(v'.ownBlock=v.ownBlock\/v'.ownBlock=some w.heap.size)->Kk (a.put o.dst v') w'):o.wp P a w Kk Q:=by
 obtain⟨v',w',b,d,e,f⟩:=K.Am o.type hown hn hc hm hl hbase;unfold Oper.wp execOp;simp only[ho,resolve,invoke,builtin,Sem.run_bind,Sem.run_pure,Result.andThen_ok,List.map_toArray,List.map_cons,List.map_nil,hs,hx,b];exact h v' w' d e f
theorem Kind.iC(K:Kind P α){ops:Array Oper}{rest:List Oper}{o:Oper}{a:Act}{Q:Exit->Act->World->Prop}(hgd:o.guard=none)(s x:Operand)
 (ho:o.op= .call {callee:=.builtin .append,args:=#[s,x],argTypes:=#[K.t,K.t]})
 {n c:Nat} {m:List α} {C:Nat} (hs:a.eval s=v) (hown:K.Own w B v l) (hx:a.eval x= .slice A n c) (hn:m.length=n) (hc:A=none->c=0) (hm:K.pA w C A m)
 (hl:l.length+n<=1000000000) (hbase:B<=w.heap.size)
 (h:∀v' w',K.Own w' B v' (l++m)->w.grownBy w' v.ownBlock->(v'.ownBlock=v.ownBlock\/v'.ownBlock=some w.heap.size)->wpList P ops Q rest (a.put o.dst v') w'):wpList P ops Q (o:: rest) a w:=
 wpList_plain hgd fun _ hK=>K.p7 s x ho hs hown hx hn hc hm hl hbase fun v' w' b d e=>hK _ _ (h v' w' b d e)
theorem Kind.tG(K:Kind P α){ops:Array Oper}{o:Oper}{a:Act}{Kk:Act->World->Prop}{Q:Exit->Act->World->Prop}{E:Prop}(hgd:o.guard=none)(s x:Operand)
 (ho:o.op= .call {callee:=.builtin .append,args:=#[s,x],argTypes:=#[K.t,K.t]})
 {n c:Nat} {m:List α} {C:Nat} (hs:a.eval s=v) (hown:K.Own w B v l) (hx:a.eval x= .slice A n c) (hn:m.length=n) (hc:A=none->c=0) (hm:K.pA w C A m)
 (hl:l.length+n<=1000000000) (hbase:B<=w.heap.size)
 (h:∀v' w',K.Own w' B v' (l++m)->w.grownBy w' v.ownBlock->(v'.ownBlock=v.ownBlock\/v'.ownBlock=some w.heap.size)->Kk (a.put o.dst v') w'):
 if Region.wanted o (yielded ops a.tmps)=true then Oper.wp P o a w Kk Q else E:=by
 have b:Region.wanted o (yielded ops a.tmps)=true:=(by simp[Region.wanted,hgd]);rw[if_pos b];exact K.p7 s x ho hs hown hx hn hc hm hl hbase h
end
end Kd
namespace P4
structure Sl(α:Type) where
 id:Int
 x:α
variable{α:Type}
def oG:List (Sl α)->Int->Nat
 |[],_=>0
 |s:: r,t=>if s.id<t then oG r t+1 else 0
def EB(n:Int)(l:List (Sl α)):Prop:=l.Pairwise (fun a b=>a.id<b.id)/\∀s∈l,1<=s.id/\s.id<=n
def PF(l:List (Sl α))(k:Nat)(t:Int):Bool:=match l[k]? with
 |some s=>s.id==t
 |none=>false
def nD(l:List (Sl α))(t:Int):Bool:=PF l (oG l t) t
theorem mU:∀(l:List (Sl α)) (t:Int) (i:Nat),i<=l.length->(∀k (h:k<l.length),k<i->l[k].id<t)->(∀k (h:k<l.length),i<=k->t<=l[k].id)->oG l t=i
 |[],t,i,hi,_,_=>by simp at hi;simp[oG,hi]
 |s:: r,t,0,_,_,h2=>by
  have:=h2 0 DA cA;simp only[List.getElem_cons_zero] at this;simp only[oG];rw[if_neg cA]
 |s:: r,t,i+1,hi,h1,h2=>by
  have h0:=h1 0 DA cA;simp only[List.getElem_cons_zero] at h0;simp only[oG];rw[if_pos h0,mU r t i (by simpa using hi) (fun k hk hki=>h1 (k+1) (by simpa using hk) cA) (fun k hk hki=>h2 (k+1) (by simpa using hk) cA)]
theorem Ea{l:List (Sl α)}{k:Nat}{t:Int}(h:PF l k t=true):k<l.length:=by
 unfold PF at h;split at h
 ·rename_i s hs;exact(List.getElem?_eq_some_iff.1 hs).1
 ·cases h
theorem Up{l:List (Sl α)}{k:Nat}{t:Int}(h:PF l k t=true)(hk:k<l.length):l[k].id=t:=by
 unfold PF at h;rw[List.getElem?_eq_getElem hk] at h;simpa using h
theorem Fa{l:List (Sl α)}{k:Nat}{t:Int}(hk:k<l.length):PF l k t=(l[k].id==t):=by
 unfold PF;rw[List.getElem?_eq_getElem hk]
theorem Ti{l:List (Sl α)}{k:Nat}{t:Int}(hk:l.length<=k):PF l k t=false:=by
 unfold PF;rw[List.getElem?_eq_none hk]
theorem IQ{n:Int}{l:List (Sl α)}(h:EB n l){i j:Nat}(hi:i<l.length)(hj:j<l.length)(hij:i<j):l[i].id<l[j].id:=
 List.pairwise_iff_getElem.1 h.1 i j hi hj hij
theorem nU{n:Int}{l:List (Sl α)}(h:EB n l){k:Nat}(hk:k<l.length):oG l l[k].id=k:=by
 refine mU l _ k cA (fun i a b=>IQ h a hk b) (fun i a c=>?_);rcases Nat.lt_or_eq_of_le c with hlt|rfl
 ·have:=IQ h hk a hlt;omega
 ·exact Int.le_refl _
theorem E7{n:Int}{l:List (Sl α)}(h:EB n l){k:Nat}(hk:k<l.length):nD l l[k].id=true:=by
 unfold nD;rw[nU h hk,Fa hk];simp
theorem Ui{l:List (Sl α)}{t:Int}(h:nD l t=true):∃s∈l,s.id=t:=by
 have a:=Ea h;exact⟨l[oG l t],List.getElem_mem _,Up h a⟩
theorem RP{n:Int}{l:List (Sl α)}(h:EB n l)(t:Int):nD l t=true↔∃s∈l,s.id=t:=by
 refine⟨Ui,?_⟩;rintro⟨s,a,rfl⟩;obtain⟨k,b,rfl⟩:=List.mem_iff_getElem.1 a;exact E7 h b
theorem Cm:EB 0 ([]:List (Sl α)):=⟨List.Pairwise.nil,fun _ h=>absurd h DA⟩
theorem Dm{n:Int}{l:List (Sl α)}(h:EB n l)(hn:0<=n)(x:α):EB (n+1) (l++[⟨n+1,x⟩]):=by
 refine⟨List.pairwise_append.2 ⟨h.1,by simp,fun a e b d=>?_⟩,fun s c=>?_⟩
 ·simp only[List.mem_singleton] at d;subst d;have:=h.2 a e;show a.id<n+1;omega
 ·simp only[List.mem_append,List.mem_singleton] at c;rcases c with c|rfl
  ·have:=h.2 s c;omega
  ·show 1<=n+1/\n+1<=n+1;omega
theorem Vi{n:Int}{l:List (Sl α)}(h:EB n l)(k:Nat):EB n (l.eraseIdx k):=
 ⟨h.1.sublist (List.eraseIdx_sublist _ _),fun s a=>h.2 s ((List.eraseIdx_sublist _ _).subset a)⟩
theorem oW{β:Type}(l:List β)(k:Nat):l.eraseIdx k=l.take k++l.drop (k+1):=List.eraseIdx_eq_take_drop_succ l k
end P4
namespace P4
open Go.RowKit Kd
theorem fV:(prog.info? 3).map (fun i=>(i.zero,i.size,i.bytes))=some (some (aA 0),1,8):=by kernel_rfl
theorem VG{P:Program}{e:TypeId}{z:Value}{size bytes:Nat}(h:(P.info? e).map (fun i=>(i.zero,i.size,i.bytes))=some (some z,size,bytes)):∃i,P.info? e=some i/\i.zero=some z/\i.size=size/\i.bytes=bytes:=by
 obtain⟨i,a,b,c,d⟩:=info_parts h;exact⟨i,a,b,c,d⟩
def kI:Kind prog Int where
 t:=51
 e:=3
 size:=1
 bytes:=8
 z:=aA 0
 cs:=fun a=>[aA a]
 ht:=underlying51
 info:=VG fV
 QG:=rfl
 wF:=by decide
 RG:=by decide
 len:=fun _=>rfl
 one:=fun a u hu=>by simp at hu;subst hu;rfl
theorem fK{a b:Int}(h:a=b):Ending.returned (aA a)= .returned (aA b):=by rw[h]
theorem MB{a b:Bool}(h:a=b):Ending.returned (.bool a)= .returned (.bool b):=by rw[h]
def xI(a b:Int):Int:=if a<b then -1 else if b<a then 1 else 0
theorem zd(a b:Int)(w:World):fA 113 #[aA a,aA b] w fun e w'=>e= .returned (aA (xI a b))/\w=w':=by
 have d:∀(x:Int) (w:World),fA 134 #[aA x] w fun e w'=>e= .returned (.bool false)/\w=w':=by
  intro x w;go_enter func134,ntmps134;go_wp2;go_ret;exact⟨MB DA,rfl⟩
 have c:=Zh d;clear d;by_cases g:a<b
 ·have f:¬b<a:=cA;go_enter func113,ntmps113;go_wp2_with fail;refine zA (c _ _) ?_;go_wp2_with fail;refine zA (c _ _) ?_;go_wp2;go_ret;exact⟨fK (by unfold xI;rw[if_pos cA]),rfl⟩
 ·by_cases f:b<a
  ·go_enter func113,ntmps113;go_wp2_with fail;refine zA (c _ _) ?_;go_wp2_with fail;refine zA (c _ _) ?_;go_wp2;go_ret;exact⟨fK (by unfold xI;rw[if_neg cA,if_pos cA]),rfl⟩
  ·go_enter func113,ntmps113;go_wp2_with fail;refine zA (c _ _) ?_;go_wp2_with fail;refine zA (c _ _) ?_;go_wp2;go_ret;exact⟨fK (by unfold xI;rw[if_neg cA,if_neg cA]),rfl⟩
theorem Wi(a b:Int):(a==b)=(xI a b==0):=by
 unfold xI;by_cases c:a<b
 ·rw[if_pos c,beq_eq_false_iff_ne.2 cA];rfl
 ·by_cases d:b<a
  ·rw[if_neg c,if_pos d,beq_eq_false_iff_ne.2 cA];rfl
  ·rw[if_neg c,if_neg d,beq_iff_eq.2 cA];rfl
theorem F7{p a:Nat}{x y:Bool}(h:p=a)(h2:x=y):Ending.returned (.tuple #[aA a,.bool y])= .returned (.tuple #[aA p,.bool x]):=by rw[h,h2]
theorem Xi{α:Type}{N:Int}{l:List (Sl α)}(h:EB N l){j:Nat}(hj:j<l.length){t:Int}(ht:l[j].id<t){k:Nat}(hk:k<l.length)(hkj:k<=j):l[k].id<t:=by
 rcases Nat.lt_or_eq_of_le hkj with hlt|rfl
 ·have:=IQ h hk hj hlt;omega
 ·exact ht
theorem Yi{α:Type}{N:Int}{l:List (Sl α)}(h:EB N l){j:Nat}(hj:j<l.length){t:Int}(ht:t<=l[j].id){k:Nat}(hk:k<l.length)(hkj:j<=k):t<=l[k].id:=by
 rcases Nat.lt_or_eq_of_le hkj with hlt|rfl
 ·have:=IQ h hj hk hlt;omega
 ·exact ht
def eF(p:Nat)(v:Value)(k:Nat):Prop:=k=p\/v.ownBlock=some k
theorem fj(b o:Nat)(x:Int)(w:World)(hc:w.cell? (dA b o)=some (aA x)):
 fA 99 #[.pointer (some (dA b o))] w fun e w'=>e= .returned (aA x)/\w=w':=by
 have a:=run_call_load (P:=prog) (f:=122) func122 (by kernel_rfl) (by kernel_rfl) (by kernel_rfl) .i64 rfl hc;go_enter func99,ntmps99;go_wp2;go_ret;exact⟨rfl,rfl⟩
theorem Em(b o:Nat)(x:Int)(w:World)(hx:0<=x)(hx2:x<=1000000)(hc:w.cell? (dA b o)=some (aA x))(hf:w.frozen? (dA b o)=false):
 fA 100 #[.pointer (some (dA b o)),aA 1] w fun e w'=>e= .returned (aA (x+1))/\w.setCell (dA b o) (aA (x+1))=w':=by
 have a:=run_call_add (P:=prog) (f:=123) func123 (by kernel_rfl) (by kernel_rfl) (by kernel_rfl) .i64 rfl (y:=1) (s:=x+1) hc hf (by simp[go_sem,IntKind.wrap_i64];omega);go_enter func100,ntmps100;go_wp2;go_ret;exact⟨rfl,rfl⟩
end P4
namespace P1
def NG(c:UInt8):Bool:=decide (97<=(c.toNat:Int))&&decide ((c.toNat:Int)<=122)
def pK(c:UInt8):Bool:=decide (48<=(c.toNat:Int))&&decide ((c.toNat:Int)<=57)
def AG(c:UInt8):Bool:=NG c || pK c || decide ((c.toNat:Int)=45)
def NC:KA->Bool
 |[]=>false
 |c:: r=>decide (r.length<12)&&NG c&&r.all AG
def okB(c:UInt8):Bool:=decide (32<=(c.toNat:Int))&&decide ((c.toNat:Int)<=126)
def YB(l:KA):Bool:=decide (l.length<=60)&&l.all okB
theorem MB{a b:Bool}(h:a=b):Ending.returned (.bool a)= .returned (.bool b):=by rw[h]
theorem I6{c:UInt8}{p:Prop}[Decidable p](h:p↔(97<=(c.toNat:Int)/\(c.toNat:Int)<=122)):decide p=NG c:=by
 unfold NG;simp[h]
theorem J6{c:UInt8}(h:(c.toNat:Int)<97\/122<(c.toNat:Int)):NG c=false:=by
 unfold NG;simp;omega
theorem Q6{c:UInt8}(h:(c.toNat:Int)<48\/57<(c.toNat:Int)):pK c=false:=by
 unfold pK;simp;omega
theorem jU{c:UInt8}(h:NG c=true):AG c=true:=by simp[AG,h]
theorem S6{c:UInt8}(h:pK c=true):AG c=true:=by simp[AG,h]
theorem fZ{c:UInt8}(h:((c.toNat:Int) != 45)=false):AG c=true:=by
 have:(c.toNat:Int)=45:=(by simpa using h);simp[AG,this]
theorem Da{c:UInt8}(h1:¬NG c=true)(h2:¬pK c=true)(h3:((c.toNat:Int) != 45)=true):AG c=false:=by
 have h:¬(c.toNat:Int)=45:=(by simpa using h3);simp[AG,h1,h2,h]
theorem U6{c:UInt8}(h1:¬NG c=true)(h2:(c.toNat:Int)<48\/57<(c.toNat:Int))(h3:((c.toNat:Int) != 45)=true):AG c=false:=
 Da h1 (by rw[Q6 h2];simp) h3
theorem Mi{c:UInt8}(h1:48<=(c.toNat:Int))(h2:(c.toNat:Int)<=57):AG c=true:=
 S6 (by simp[pK,h1,h2])
theorem toList_nil{s:wA}(h:s.size=0):s.toList=[]:=by
 rw[ByteArray.toList_eq];apply List.eq_nil_of_length_eq_zero;simpa using h
theorem toList_cons{s:wA}(h:0<s.size):s.toList.isEmpty=false:=by
 rw[ByteArray.toList_eq];cases e:s.data.toList with
 |nil=>
  have:s.data.toList.length=s.size:=DA;rw[e] at this;simp at this;omega
 |cons c r=>rfl
def WI(s:wA)(k:Nat):Prop:=∀j (h:j<s.size),1<=j->j<k->AG s[j]=true
theorem WI.one(s:wA):WI s 1:=fun _ _ b a=>absurd a cA
theorem WI.next{s:wA}{k:Nat}(h:WI s k)(hk:k<s.size)(hi:AG s[k]=true):WI s (k+1):=by
 intro j a b c;by_cases e:j=k
 ·subst e;exact hi
 ·exact h j a b cA
theorem Y6(s:wA)(k:Nat)(h:k<s.size):s.data.toList[k]'(by simpa using h)=s[k]:=rfl
theorem nW{s:wA}(h:s.size=0):NC s.data.toList=false:=by
 have:s.data.toList=[]:=by
  apply List.eq_nil_of_length_eq_zero;simpa using h
 rw[this];rfl
theorem vP(s:wA)(h:0<s.size):∃r,s.data.toList=s[0]:: r/\r.length+1=s.size/\∀j (hj:j<r.length) (hs:j+1<s.size),r[j]=s[j+1]:=by
 cases e:s.data.toList with
 |nil=>
  have:s.data.toList.length=s.size:=DA;rw[e] at this;simp at this;omega
 |cons c r=>
  have a:s.data.toList.length=s.size:=DA;have b:=Y6 s 0 h;refine⟨r,?_,?_,?_⟩
  ·rw[<-b];simp[e]
  ·rw[e] at a;simpa using a
  ·intro j hj hs;have:=Y6 s (j+1) hs;rw[<-this];simp[e]
theorem zW{s:wA}(h:12<s.size):NC s.data.toList=false:=by
 obtain⟨r,e,a,_⟩:=vP s cA;rw[e];simp[NC];omega
theorem AW{s:wA}(h:0<s.size)(h0:NG s[0]=false):NC s.data.toList=false:=by
 obtain⟨r,e,a,_⟩:=vP s cA;rw[e];simp[NC,h0]
theorem US{s:wA}{k:Nat}(h1:1<=k)(h:k<s.size)(h0:AG s[k]=false):NC s.data.toList=false:=by
 obtain⟨r,e,b,a⟩:=vP s cA;rw[e];have:r.all AG=false:=by
  rw[List.all_eq_false];obtain⟨m,rfl⟩:∃m,k=m+1:=⟨k-1,by omega⟩;exact⟨r[m],List.getElem_mem _,by rw[a m cA h,h0];simp⟩
 simp only[NC,this,Bool.and_false]
theorem gZ{s:wA}(h:0<s.size)(h12:s.size<=12)(h0:NG s[0]=true)(ha:WI s s.size):NC s.data.toList=true:=by
 obtain⟨r,e,c,a⟩:=vP s cA;rw[e];have:r.all AG=true:=by
  rw[List.all_eq_true];intro x hx;obtain⟨j,b,rfl⟩:=List.getElem_of_mem hx;rw[a j b cA];exact ha (j+1) cA cA cA
 simp[NC,this,h0];omega
def wI(s:wA)(k:Nat):Prop:=∀j (h:j<s.size),j<k->okB s[j]=true
theorem wI.zero(s:wA):wI s 0:=fun _ _ a=>absurd a cA
theorem wI.next{s:wA}{k:Nat}(h:wI s k)(hk:k<s.size)(h1:32<=(s[k].toNat:Int))(h2:(s[k].toNat:Int)<=126):wI s (k+1):=by
 intro j a h2;by_cases e:j=k
 ·subst e;unfold okB;simp;omega
 ·exact h j a cA
theorem Ni{s:wA}(h:s.size<=60)(ha:wI s s.size):YB s.data.toList=true:=by
 have:s.data.toList.all okB=true:=by
  rw[List.all_eq_true];intro x hx;obtain⟨j,b,rfl⟩:=List.getElem_of_mem hx;have a:j<s.size:=(by simpa using b);exact ha j a a
 simp only[YB,this,Bool.and_true];simp;exact h
theorem ig{s:wA}(ha:wI s s.size):YB s.data.toList=decide (s.size<=60):=by
 have:s.data.toList.all okB=true:=by
  rw[List.all_eq_true];intro x hx;obtain⟨j,b,rfl⟩:=List.getElem_of_mem hx;have a:j<s.size:=(by simpa using b);exact ha j a a
 simp only[YB,this,Bool.and_true];simp
theorem wP{s:wA}{k:Nat}(h:k<s.size)(h0:(s[k].toNat:Int)<32\/126<(s[k].toNat:Int)):YB s.data.toList=false:=by
 have:s.data.toList.all okB=false:=by
  rw[List.all_eq_false];refine⟨s[k],List.getElem_mem (by simpa using h),?_⟩;unfold okB;simp;omega
 simp only[YB,this,Bool.and_false]
theorem ze{s:wA}(h:60<s.size):YB s.data.toList=false:=by
 simp[YB];omega
def fC(l:KA):Bool:=l==[98,114] || l==[104,114] || l==[105,109,103] || l==[105,110,112,117,116]
theorem ZJ{s:wA}{b:Bool}(h:(s.toList==[98,114] || s.toList==[104,114] || s.toList==[105,109,103] || s.toList==[105,110,112,117,116])=b):b=fC s.data.toList:=by
 rw[<-h,ByteArray.toList_eq];rfl
theorem Ae{c:UInt8}{r:KA}(h:NC (c:: r)=true):r.length<12/\NG c=true/\r.all AG=true:=by
 simp only[NC,Bool.and_eq_true,decide_eq_true_eq] at h;exact⟨h.1.1,h.1.2,h.2⟩
end P1
namespace P3
structure At where
 nm:wA
 vl:wA
 st:Bool
def At.none:At:=⟨⟨#[]⟩,⟨#[]⟩,false⟩
def rL(s:wA)(a:At):Bool:=a.nm.toList==s.toList
def vF(l:List At)(s:wA):Option At:=l.find? (rL s)
def nD(l:List At)(s:wA):Bool:=(vF l s).isSome
theorem Be{l:List At}{s:wA}{n:Nat}(hn:l.length=n)(h:vF (l.take n) s=none):vF l s=none:=by subst hn;simpa using h
theorem DW{l:List At}{s:wA}{k:Nat}(h:vF (l.take k) s=none)(hk:k<l.length)(he:(l[k].nm.toList==s.toList)=false):vF (l.take (k+1)) s=none:=by
 rw[List.take_succ_eq_append_getElem hk,vF,List.find?_append];unfold vF at h;rw[h];simp[rL,he]
theorem Ce{l:List At}{s:wA}{k:Nat}(h:vF (l.take k) s=none)(hk:k<l.length)(he:(l[k].nm.toList==s.toList)=true):vF l s=some l[k]:=by
 have e:List.find? (rL s) (l.take k++(l[k]:: l.drop (k+1)))=some l[k]:=by
  unfold vF at h;rw[List.find?_append,h,List.find?_cons];simp[rL,he]
 rw[<-List.drop_eq_getElem_cons hk,List.take_append_drop] at e;exact e
theorem RP{l:List At}{s:wA}:nD l s=true↔∃a∈l,a.nm.toList=s.toList:=by
 unfold nD vF;rw[List.find?_isSome];simp[rL]
theorem ZR{l:List At}{s:wA}:nD l s=false↔∀a∈l,a.nm.toList≠s.toList:=by
 rw[<-Bool.not_eq_true,RP];simp
def PF(a b:At):Bool:=a.nm.toList==b.nm.toList&&a.vl.toList==b.vl.toList&&a.st==b.st
def zD:List At->List At->Bool
 |[],[]=>true
 |a:: l,b:: m=>PF a b&&zD l m
 |_,_=>false
theorem Oi(a:At):PF a a=true:=by simp[PF]
theorem EX{l m:List At}(h:l.length≠m.length):zD l m=false:=by
 induction l generalizing m with
 |nil=>cases m<;>simp_all [zD]
 |cons a l ih=>
  cases m with
  |nil=>rfl
  |cons b m=>simp only[zD,ih (by simpa using h),Bool.and_false]
theorem FX{l m:List At}{k:Nat}(hk:k<l.length)(hm:k<m.length)(h:PF l[k] m[k]=false):zD l m=false:=by
 induction l generalizing m k with
 |nil=>simp at hk
 |cons a l ih=>
  cases m with
  |nil=>rfl
  |cons b m=>
   cases k with
   |zero=>simp at h;simp[zD,h]
   |succ k=>simp at h hk hm;simp[zD,ih hk hm h]
def pI(l m:List At)(k:Nat):Prop:=∀j (h:j<l.length) (h':j<m.length),j<k->PF l[j] m[j]=true
theorem pI.zero(l m:List At):pI l m 0:=fun _ _ _ h=>absurd h cA
theorem pI.next{l m:List At}{k:Nat}(h:pI l m k)(hk:k<l.length)(hm:k<m.length)(hb:PF l[k] m[k]=true):pI l m (k+1):=by
 intro j b a c;by_cases e:j=k
 ·subst e;exact hb
 ·exact h j b a cA
theorem pI.all{l m:List At}{k:Nat}(h:pI l m k)(hl:l.length=k)(hm:m.length=k):zD l m=true:=by
 induction l generalizing m k with
 |nil=>
  cases m with
  |nil=>rfl
  |cons b m=>simp at hl hm;omega
 |cons a l ih=>
  cases m with
  |nil=>simp at hl hm;omega
  |cons b m=>
   have d:=h 0 DA DA (by simp at hl;omega);simp at d;simp only[zD,d,Bool.true_and];refine ih (k:=l.length) (fun j e c _=>?_) rfl (by simp at hl hm;omega);have:=h (j+1) (by simpa using e) (by simpa using c) (by simp at hl;omega);simpa using this
def YA(l:List At)(s:Bool):List At:=l.filter fun a=>a.st==s
theorem gM{l:List At}{s:Bool}{k:Nat}(hk:k<l.length)(h:(l[k].st==s)=true):YA (l.take (k+1)) s=YA (l.take k) s++[l[k]]:=by
 rw[List.take_succ_eq_append_getElem hk,YA,List.filter_append];simp[h,YA]
theorem yN{l:List At}{s:Bool}{k:Nat}(hk:k<l.length)(h:(l[k].st==s)=false):YA (l.take (k+1)) s=YA (l.take k) s:=by
 rw[List.take_succ_eq_append_getElem hk,YA,List.filter_append];simp[h,YA]
theorem kP{l:List At}{s:Bool}{n:Nat}(hn:l.length=n):YA (l.take n) s=YA l s:=by subst hn;simp
theorem zK(l:List At)(s:Bool):(YA l s).length<=l.length:=List.length_filter_le _ _
theorem rN(l:List At)(s:Bool)(k:Nat):(YA (l.take k) s).length<=l.length:=Nat.le_trans (zK _ _) (by rw[List.length_take];omega)
theorem tN{l:List At}{s:Bool}{a:At}:a∈YA l s↔a∈l/\a.st=s:=by simp[YA]
def yB(laid:List At):List At->List At
 |[]=>laid
 |a:: m=>if nD laid a.nm then yB laid m else yB (laid++[a]) m
def pC(l:List At):List At:=YA l true++YA l false
def aC(old want:List At):List At:=(yB (YA old true) (YA want false)).take 8
theorem YV{laid m:List At}{a:At}(h:nD (yB laid m) a.nm=true):yB laid (m++[a])=yB laid m:=by
 induction m generalizing laid with
 |nil=>simp only[List.nil_append,yB] at h|-;rw[if_pos h]
 |cons b m ih=>
  simp only[List.cons_append,yB] at h|-;split
  ·rename_i hb;rw[if_pos hb] at h;exact ih h
  ·rename_i hb;rw[if_neg hb] at h;exact ih h
theorem eW{laid m:List At}{a:At}(h:nD (yB laid m) a.nm=false):yB laid (m++[a])=yB laid m++[a]:=by
 induction m generalizing laid with
 |nil=>simp only[List.nil_append,yB] at h|-;rw[if_neg (by simp[h])]
 |cons b m ih=>
  simp only[List.cons_append,yB] at h|-;split
  ·rename_i hb;rw[if_pos hb] at h;exact ih h
  ·rename_i hb;rw[if_neg hb] at h;exact ih h
theorem iZ(laid m:List At):∃r,yB laid m=laid++r/\r.length<=m.length:=by
 induction m generalizing laid with
 |nil=>exact⟨[],by simp[yB],by simp⟩
 |cons b m ih=>
  simp only[yB];split
  ·obtain⟨r,a,c⟩:=ih laid;exact⟨r,a,by simp;omega⟩
  ·obtain⟨r,a,c⟩:=ih (laid++[b]);exact⟨b:: r,by rw[a];simp,by simp;omega⟩
theorem yd(laid m r:List At):yB laid (m++r)=yB (yB laid m) r:=by
 induction m generalizing laid with
 |nil=>rfl
 |cons b m ih=>simp only[List.cons_append,yB];split<;>exact ih _
theorem Lc{laid m:List At}{k:Nat}(hk:k<m.length)(h:nD (yB laid (m.take k)) m[k].nm=true):yB laid (m.take (k+1))=yB laid (m.take k):=by
 rw[List.take_succ_eq_append_getElem hk];exact YV h
theorem Mc{laid m:List At}{k:Nat}(hk:k<m.length)(h:nD (yB laid (m.take k)) m[k].nm=false):yB laid (m.take (k+1))=yB laid (m.take k)++[m[k]]:=by
 rw[List.take_succ_eq_append_getElem hk];exact eW h
theorem Oc{l:List At}{s:wA}{j:Nat}(hj:j<l.length):nD (l.take (j+1)) s=(nD (l.take j) s || (l[j].nm.toList==s.toList)):=by
 unfold nD vF;rw[List.take_succ_eq_append_getElem hj,List.find?_append];cases (l.take j).find? (rL s)<;>simp[rL];split<;>simp_all
theorem Qi{S m:List At}{k:Nat}(hk:k<m.length)(h:true=(m[k].st || nD (yB S (YA (m.take k) false)) m[k].nm)):yB S (YA (m.take (k+1)) false)=yB S (YA (m.take k) false):=by
 cases hs:m[k].st
 ·rw[gM hk (by rw[hs];rfl)];rw[hs] at h;exact YV (by simpa using h.symm)
 ·rw[yN hk (by rw[hs];rfl)]
theorem um{S m:List At}{k:Nat}(hk:k<m.length)(h:false=(m[k].st || nD (yB S (YA (m.take k) false)) m[k].nm)):yB S (YA (m.take (k+1)) false)=yB S (YA (m.take k) false)++[m[k]]:=by
 have a:=h.symm;rw[Bool.or_eq_false_iff] at a;rw[gM hk (by rw[a.1];rfl)];exact eW a.2
theorem jg{laid m:List At}{k:Nat}(h:8<=(yB laid (m.take k)).length):(yB laid m).take 8=(yB laid (m.take k)).take 8:=by
 have e:yB laid m=yB (yB laid (m.take k)) (m.drop k):=(by rw[<-yd,List.take_append_drop]);obtain⟨r,a,_⟩:=iZ (yB laid (m.take k)) (m.drop k);rw[e,a,List.take_append_of_le_length h]
theorem jZ(laid m:List At):(yB laid m).length<=laid.length+m.length:=by
 obtain⟨r,a,b⟩:=iZ laid m;rw[a,List.length_append];omega
theorem Uc(laid m:List At)(k:Nat):(yB laid (m.take k)).length<=laid.length+m.length:=
 Nat.le_trans (jZ _ _) (by rw[List.length_take];omega)
theorem Ri(S m:List At)(k:Nat):(yB S (YA (m.take k) false)).length<=S.length+m.length:=
 Nat.le_trans (jZ _ _) (uA (rN m false k))
theorem kZ(l:List At):(pC l).length=l.length:=by
 unfold pC
 induction l with
 |nil=>rfl
 |cons a l ih=>
  rw[List.length_append] at ih|-;cases hs:a.st<;>simp[YA,hs] at ih|-<;>omega
theorem VS(l m:List At):(aC l m).length<=8:=by unfold aC;rw[List.length_take];omega
def sL(l:List At)(j:Nat):Bool:=
 match l[j]? with
 |some a=>P1.NC a.nm.data.toList&&P1.YB a.vl.data.toList && !nD (l.take j) a.nm
 |none=>true
def oN(l:List At):Bool:=(List.range l.length).all (sL l)
def bC(l:List At):Bool:=decide (l.length<=8)&&oN l
theorem mI{l:List At}{k:Nat}(hk:k<l.length):sL l k=(P1.NC l[k].nm.data.toList&&P1.YB l[k].vl.data.toList && !nD (l.take k) l[k].nm):=by
 unfold sL;rw[List.getElem?_eq_getElem hk]
def QH(l:List At)(k:Nat):Prop:=∀j,j<k->sL l j=true
theorem QH.zero(l:List At):QH l 0:=fun _ h=>absurd h cA
theorem QH.next{l:List At}{k:Nat}(h:QH l k)(hb:sL l k=true):QH l (k+1):=by
 intro j a;by_cases e:j=k
 ·subst e;exact hb
 ·exact h j cA
theorem xm{l:List At}{k:Nat}(hk:k<l.length)(h:sL l k=false):oN l=false:=by
 unfold oN;rw[List.all_eq_false];exact⟨k,List.mem_range.2 hk,by simp[h]⟩
theorem QH.all{l:List At}{k:Nat}(h:QH l k)(hl:l.length=k):oN l=true:=by
 unfold oN;rw[List.all_eq_true];intro j a;exact h j (by rw[<-hl];exact List.mem_range.1 a)
theorem tM{l:List At}{k:Nat}(hk:k<l.length)(h:sL l k=false):bC l=false:=by
 unfold bC;rw[xm hk h];simp
theorem JX{l:List At}(h:8<l.length):bC l=false:=by
 unfold bC;simp;omega
theorem j7{l:List At}{k:Nat}(h:QH l k)(hl:l.length=k):bC l=decide (k<=8):=by
 unfold bC;rw[h.all hl,hl];simp
theorem oJ{l:List At}:bC l=true↔l.length<=8/\(∀a∈l,P1.NC a.nm.data.toList=true/\P1.YB a.vl.data.toList=true)/\l.Pairwise fun a b=>a.nm.toList≠b.nm.toList:=by
 unfold bC oN;simp only[Bool.and_eq_true,decide_eq_true_eq,List.all_eq_true,List.mem_range];refine and_congr Iff.rfl ⟨fun h=>⟨fun a d=>?_,?_⟩,fun⟨h1,h2⟩ j c=>?_⟩
 ·obtain⟨j,c,rfl⟩:=List.getElem_of_mem d;have:=h j c;rw[mI c] at this;simp only[Bool.and_eq_true] at this;exact⟨this.1.1,this.1.2⟩
 ·rw[List.pairwise_iff_getElem];intro i j e c f;have:=h j c;rw[mI c] at this;simp only[Bool.and_eq_true,Bool.not_eq_true'] at this;exact ZR.1 this.2 l[i] (by rw[List.mem_take_iff_getElem];exact⟨i,by omega,rfl⟩)
 ·rw[mI c];simp only[Bool.and_eq_true,Bool.not_eq_true'];refine⟨h1 _ (List.getElem_mem c),ZR.2 fun a d=>?_⟩;obtain⟨i,e,rfl⟩:=List.mem_take_iff_getElem.1 d;exact(List.pairwise_iff_getElem.1 h2) i j cA c cA
def qI(a:At):Bool:=decide (a.nm.size<=100)&&decide (a.vl.size<=100)
def ZH(l:List At):Bool:=decide (l.length<=20)&&l.all qI
end P3
namespace P4
open Go.RowKit Kd
theorem Ga:(prog.info? 150).map (fun i=>(i.zero,i.size,i.bytes))=some (some (.agg #[aA 0,.pointer none]),2,16):=by kernel_rfl
theorem gV:(prog.info? 119).map (fun i=>(i.zero,i.size,i.bytes))=some (some (.agg #[tA,tA,.bool false]),3,40):=by kernel_rfl
theorem nr:(prog.info? 53).map (fun i=>(i.zero,i.size,i.bytes))=some (some (.agg QD),8,120):=by kernel_rfl
def pH:Kind prog (Sl Nat) where
 t:=139
 e:=150
 size:=2
 bytes:=16
 z:=.agg #[aA 0,.pointer none]
 cs:=fun a=>[aA a.id,iA a.x]
 ht:=underlying139
 info:=VG Ga
 QG:=rfl
 wF:=by decide
 RG:=by decide
 len:=fun _=>rfl
 one:=fun a u hu=>by simp at hu;rcases hu with rfl|rfl<;>rfl
def kA:Kind prog P3.At where
 t:=50
 e:=119
 size:=3
 bytes:=40
 z:=.agg #[tA,tA,.bool false]
 cs:=fun a=>[bA a.nm,bA a.vl,.bool a.st]
 ht:=underlying50
 info:=VG gV
 QG:=rfl
 wF:=by decide
 RG:=by decide
 len:=fun _=>rfl
 one:=fun a u hu=>by simp at hu;rcases hu with rfl|rfl|rfl<;>rfl
structure Sv where
 A:jA
 n:Nat
 c:Nat
def Sv.val(s:Sv):Value:=.slice s.A s.n s.c
structure RN where
 id:Int
 par:Int
 tag:wA
 txt:wA
 key:wA
 va:Sv
 vk:Sv
 note:Int
def RN.cells(a:RN):List Value:=[aA a.id,aA a.par,bA a.tag,bA a.txt,bA a.key,a.va.val,a.vk.val,aA a.note]
def kN:Kind prog RN where
 t:=70
 e:=53
 size:=8
 bytes:=120
 z:=.agg QD
 cs:=RN.cells
 ht:=underlying70
 info:=VG nr
 QG:=rfl
 wF:=by decide
 RG:=by decide
 len:=fun _=>rfl
 one:=fun a u hu=>by simp[RN.cells,Sv.val] at hu;rcases hu with rfl|rfl|rfl|rfl|rfl|rfl|rfl|rfl<;>rfl
theorem LV{w:World}{B:Nat}{A:jA}{l:List (Sl Nat)}(h:pH.pA w B A l){k:Nat}(hk:k<l.length):
 ∃b o,A=some (dA b o)/\b<B/\w.cell? ⟨b,o+k*2,none⟩=some (aA l[k].id)/\w.cell? ⟨b,o+k*2+1,none⟩=some (iA (l[k].x)):=by
 obtain⟨b,o,rfl,c,a⟩:=h.at hk;exact⟨b,o,rfl,c,a 0 _ rfl,a 1 _ rfl⟩
theorem vT(s:Sl Nat)(t:Int)(w:World):fA 112 #[.agg #[aA s.id,(iA s.x)],aA t] w fun e w'=>e= .returned (aA (xI s.id t))/\eA w w':=by
 go_enter func112,ntmps112;go_wp2_with fail;refine zA (zd _ _ _) ?_;go_wp2;go_ret;exact⟨rfl,Zb _ _⟩
def I7(w:World)(l:List (Sl Nat))(t:Int)(e:Ending)(w':World):Prop:=
 e= .returned (.tuple #[aA (oG l t),.bool (nD l t)])/\eA w w'
theorem Ad(l:List (Sl Nat))(N:Int)(A:jA)(n c:Nat)(t:Int)(w:World)(hn:l.length=n)(hn2:n<=1000000)(hl:EB N l)(H:pH.pA w w.heap.size A l):
 fA 111 #[.slice A n c,aA t,.func (.func 112) #[] #[]] w (I7 w l t):=by
 have y:=Zh H;have m:=Zh hn;have z:=Zh hl;clear H hn hl;go_enter func111,ntmps111;go_wp2_with fail;go_loopw [9,10] (fun i j wr=>∃a b:Nat,a<=b/\b<=n/\i = aA a/\j = aA b/\Hid (∀k (h:k<l.length),k<a->l[k].id<t)/\Hid (∀k (h:k<l.length),b<=k->t<=l[k].id)/\Hid (eA w wr)) (fun i j _=>(intOf j-intOf i).toNat)
 case atStart=>exact⟨0,n,by omega,by omega,rfl,rfl,Zh (fun k _ h=>by omega),Zh (fun k h E=>by have:=m.out;omega),Zh Ze⟩
 case round=>
  obtain⟨a,b,F,G,rfl,rfl,s,u,d⟩:=hrel;by_cases I:a<b
  ·obtain⟨h,P⟩:∃h:Nat,((a:Int)+b)/2=h:=⟨(a+b)/2,by omega⟩;have J:a<=h:=cA;have E:h<b:=cA;have hn:h<n:=cA;have hl:h<l.length:=(uA m.out);obtain⟨g,o,rfl,K,L,M⟩:=LV (y.below d Zl) hl;by_cases v:l[h].id<t
   ·have B:xI l[h].id t<0:=(by unfold xI;rw[if_pos v];decide);go_wp2_with fail;refine(vT l[h] t _).mono ?_;rintro e C ⟨rfl,f⟩;have p:=Zh f;clear f;go_wp2_with fail;go_roundw
    case rel=>exact⟨h+1,b,by omega,by omega,by go_num,rfl,Zh (fun k x q=>Xi z hl v x cA),u,Zh (d.trans (p.mono d.size))⟩
    case measure=>simp[intOf];omega
   ·have O:¬xI l[h].id t<0:=(by unfold xI;rw[if_neg v];split<;>decide);go_wp2_with fail;refine(vT l[h] t _).mono ?_;rintro e C ⟨rfl,f⟩;have p:=Zh f;clear f;go_wp2_with fail;go_roundw
    case rel=>exact⟨a,h,by omega,by omega,rfl,rfl,s,Zh (fun k x q=>Yi z hl cA x q),Zh (d.trans (p.mono d.size))⟩
    case measure=>simp[intOf];omega
  ·obtain rfl:a=b:=cA
   have D:oG l t=a:=mU l t a (uA m.out) s u;have r:=Zh D;clear D s u;by_cases J:a<n
   ·have hl:a<l.length:=(uA m.out);obtain⟨g,o,rfl,K,L,M⟩:=LV (y.below d Zl) hl;go_wp2_with fail;refine(vT l[a] t _).mono ?_;rintro e C ⟨rfl,f⟩;have p:=Zh f;clear f;go_wp2_with fail;go_ret2;exact⟨F7 r (by unfold nD;rw[r.out,Fa hl];exact Wi _ _),d.trans (p.mono d.size)⟩
   ·go_wp2_with fail;go_ret2;exact⟨F7 r (by unfold nD;rw[r.out,Ti (uA m.out)]),d⟩
structure SC(w:World)(B p R:Nat)(n:Int)(v:Value)(l:List (Sl Nat)):Prop where
 mA:w.heap[p]? = some (.cells #[aA R,aA n,v] 141 (0,0))
 own:pH.Own w B v l
 base:B<=p
 VC:EB n l
 pos:0<=n
 len:l.length<=R
 room:R<=200
section
variable{w w':World}{B p R:Nat}{n:Int}{v:Value}{l:List (Sl Nat)}
theorem SC.lt(h:SC w B p R n v l):p<w.heap.size:=FA h.mA
theorem SC.c0(h:SC w B p R n v l):w.cell? (dA p 0)=some (aA R):=cell_of_row w p 0 _ _ (0,0) h.mA
theorem SC.c1(h:SC w B p R n v l):w.cell? (dA p 1)=some (aA n):=cell_of_row w p 1 _ _ (0,0) h.mA
theorem SC.c2(h:SC w B p R n v l):w.cell? (dA p 2)=some v:=cell_of_row w p 2 _ _ (0,0) h.mA
theorem SC.frozen(h:SC w B p R n v l)(i:Nat):w.frozen? (dA p i)=false:=by
 have:=h.mA;simp[World.frozen?,this]
theorem SC.sB(h:SC w B p R n v l)(hp:w'.heap[p]? = w.heap[p]?)(hv:∀g,v.ownBlock=some g->w'.heap[g]? = w.heap[g]?):SC w' B p R n v l:=
 ⟨hp.trans h.mA,h.own.sB hv,h.base,h.VC,h.pos,h.len,h.room⟩
theorem SC.but{S:Nat->Prop}(h:SC w B p R n v l)(hb:gA S w w')(hp:¬S p)(hv:∀g,v.ownBlock=some g->¬S g):SC w' B p R n v l:=
 h.sB (hb.block p h.lt hp) (fun g a=>hb.block g (h.own.lt a).2 (hv g a))
theorem SC.below{C:Nat}(h:SC w B p R n v l)(hb:Below C w w')(hC:w.heap.size<=C):SC w' B p R n v l:=
 h.sB (hb.block p (uA h.lt)) (fun g a=>hb.block g (uA ((h.own.lt a).2)))
theorem SC.drewN(h:SC w B p R n v l)(k:Nat):SC (w.drewN k) B p R n v l:=⟨h.mA,h.own,h.base,h.VC,h.pos,h.len,h.room⟩
theorem SC.apart(h:SC w B p R n v l):v.ownBlock≠some p:=fun e=>by
 obtain⟨c,a⟩:=h.own.ty e;exact RA a h.mA nA rfl
theorem SC.other(h:SC w B p R n v l){g:Nat}{c:Array Value}{t:TypeId}{f:Nat×Nat}(hg:w.heap[g]? = some (.cells c t f))(h1:t≠141)(h2:t≠150):¬eF p v g:=by
 rintro(rfl|a)
 ·exact RA hg h.mA h1 rfl
 ·obtain⟨d,b⟩:=h.own.ty a;exact RA hg b h2 rfl
end
theorem qg(t:Int){B p R:Nat}{n:Int}{v:Value}{l:List (Sl Nat)}(w:World)(h:SC w B p R n v l):
 fA 83 #[iA p,aA t] w (I7 w l t):=by
 obtain⟨A,k,c,rfl,f,a,b,j,g⟩:=h.own.slice;have m:=Zh f;have o:=Zh g;have q:=Zh h.VC;have s:=h.c2;have d:k<=1000000:=(by have:=h.len;have:=h.room;omega);clear f g j b a h;go_enter func83,ntmps83;go_wp2_with fail;refine(Ad l n A k c t w m d q o).mono ?_;rintro e u ⟨rfl,i⟩;have r:=Zh i;clear i;go_wp2_with fail;go_ret2;exact⟨rfl,r⟩
end P4
namespace P1
open Go.RowKit
theorem EW(c:UInt8)(w:World):fA 135 #[.int .u8 (c.toNat:Int)] w fun e w'=>e= .returned (.bool (NG c))/\w=w':=by
 go_enter func135,ntmps135;go_wp2_with fail
 all_goals (go_ret;exact⟨MB (by first|(rw[J6 cA])|exact I6 cA),rfl⟩)
theorem bP(c:UInt8)(w:World):fA 88 #[.int .u8 (c.toNat:Int)] w fun e w'=>e= .returned (.bool (NG c))/\w=w':=by
 go_enter func88,ntmps88;go_wp2_with fail
 all_goals (go_ret;exact⟨MB (by first|(rw[J6 cA])|exact I6 cA),rfl⟩)
theorem kg(c:UInt8)(w:World):fA 136 #[.int .u8 (c.toNat:Int)] w fun e w'=>e= .returned (.bool (pK c))/\w=w':=by
 go_enter func136,ntmps136;go_wp2_with fail
 all_goals (go_ret;exact⟨MB (by first|(rw[Q6 cA])|(unfold pK;simp;omega)),rfl⟩)
theorem ZN(s:wA)(w:World)(hs:s.size<=maxLen):fA 115 #[bA s] w fun e w'=>e= .returned (.bool (NC s.data.toList))/\w=w':=by
 unfold maxLen at hs;by_cases f:s.size=0
 ·have m:s.toList=[]:=toList_nil f;have a:s.toList.isEmpty=true:=(by rw[m];rfl);go_enter func115,ntmps115;go_wp2_with fail;go_ret;exact⟨MB (nW f).symm,rfl⟩
 ·have g:0<s.size:=cA;have a:s.toList.isEmpty=false:=toList_cons g;have n:¬s.toList=[]:=(by intro e;rw[e] at a;cases a);clear f;by_cases j:12<s.size
  ·go_enter func115,ntmps115;go_wp2_with fail;go_ret;exact⟨MB (zW j).symm,rfl⟩
  ·go_enter func115,ntmps115;go_wp2_with fail;refine zA (EW _ _) ?_;cases hl:NG s[0]
   ·go_wp2_with fail;go_ret;exact⟨MB (AW g hl).symm,rfl⟩
   ·have o:=Zh hl;go_wp2_with fail;clear hl;go_loop [3] (fun i=>∃k:Nat,1<=k/\k<=s.size/\i = aA k/\WI s k) (fun i=>s.size-(intOf i).toNat)
    case atStart=>exact⟨1,by omega,by omega,rfl,WI.one s⟩
    case round=>
     obtain⟨k,l,p,rfl,b⟩:=hrel;have c:=Zh b;clear b;by_cases d:k<s.size
     ·go_wp2_with (first|(go_at_call 135;refine zA (EW _ _) ?_)|(go_at_call 136;refine zA (kg _ _) ?_))
      all_goals first|(go_ret;exact⟨MB (US l d (Da ‹_› ‹_› ‹_›)).symm,rfl⟩)|skip
      all_goals
       go_round
       case rel=>exact⟨k+1,by omega,by omega,by go_num,c.next d (by first|exact jU ‹_›|exact S6 ‹_›|exact fZ ‹_›)⟩
       case measure=>simp[intOf];omega
     ·obtain rfl:k=s.size:=cA
      go_wp2_with fail;go_ret;exact⟨MB (gZ g cA o c).symm,rfl⟩
theorem mg(s:wA)(w:World)(hs:s.size<=maxLen):fA 54 #[bA s] w fun e w'=>e= .returned (.bool (NC s.data.toList))/\w=w':=by
 unfold maxLen at hs;by_cases p:s.size<1
 ·go_enter func54,ntmps54;go_wp2_with fail;go_ret;exact⟨MB (nW cA).symm,rfl⟩
 ·have n:0<s.size:=cA;clear p;by_cases o:12<s.size
  ·go_enter func54,ntmps54;go_wp2_with fail;go_ret;exact⟨MB (zW o).symm,rfl⟩
  ·go_enter func54,ntmps54;go_wp2_with fail;go_loop [3] (fun i=>∃k:Nat,0<=k/\k<=s.size/\i = aA k/\WI s k/\(0<k->NG s[0]=true)) (fun i=>s.size-(intOf i).toNat)
   case atStart=>exact⟨0,by omega,by omega,rfl,fun _ _ _ h=>absurd h cA,fun h=>absurd h cA⟩
   case round=>
    obtain⟨k,a,u,rfl,g,j⟩:=hrel;have c:=Zh g;have m:=Zh j;clear g j;by_cases b:k<s.size
    ·by_cases d:k=0
     ·subst d;go_wp2_with (go_at_call 88;refine zA (bP _ _) ?_)
      all_goals first|(go_ret;exact⟨MB (AW n (Bool.eq_false_iff.mpr ‹_›)).symm,rfl⟩)|skip
      go_round
      case rel=>exact⟨1,by omega,by omega,rfl,WI.one s,fun _=>‹_›⟩
      case measure=>simp[intOf];omega
     ·have a:1<=k:=cA;have q:((k:Int)==0)=false:=(by simpa using d);clear d;by_cases r:(s[k].toNat:Int)<48
      ·cases f:((s[k].toNat:Int) != 45)
       all_goals
        go_wp2_with (go_at_call 88;refine zA (bP _ _) ?_)
        all_goals first|(go_ret;exact⟨MB (US a b (U6 ‹_› cA f)).symm,rfl⟩)|skip
        all_goals
         go_round
         case rel=>exact⟨k+1,by omega,by omega,by go_num,c.next b (by first|exact jU ‹_›|exact fZ ‹_›),fun _=>m a⟩
         case measure=>simp[intOf];omega
      ·have l:48<=(s[k].toNat:Int):=cA;by_cases t:57<(s[k].toNat:Int)
       ·have f:((s[k].toNat:Int) != 45)=true:=AA;go_wp2_with (go_at_call 88;refine zA (bP _ _) ?_)
        all_goals first|(go_ret;exact⟨MB (US a b (U6 ‹_› cA f)).symm,rfl⟩)|skip
        all_goals
         go_round
         case rel=>exact⟨k+1,by omega,by omega,by go_num,c.next b (jU ‹_›),fun _=>m a⟩
         case measure=>simp[intOf];omega
       ·go_wp2_with (go_at_call 88;refine zA (bP _ _) ?_)
        all_goals
         go_round
         case rel=>exact⟨k+1,by omega,by omega,by go_num,c.next b (Mi l cA),fun _=>m a⟩
         case measure=>simp[intOf];omega
    ·obtain rfl:k=s.size:=cA
     go_wp2_with fail;go_ret;exact⟨MB (gZ n cA (m n) c).symm,rfl⟩
theorem mZ(s:wA)(w:World)(hs:s.size<=maxLen):fA 114 #[bA s] w fun e w'=>e= .returned (.bool (YB s.data.toList))/\w=w':=by
 unfold maxLen at hs;by_cases d:60<s.size
 ·go_enter func114,ntmps114;go_wp2_with fail;go_ret;exact⟨MB (ze d).symm,rfl⟩
 ·go_enter func114,ntmps114;go_wp2_with fail;go_loop [3] (fun i=>∃k:Nat,0<=k/\k<=s.size/\i = aA k/\wI s k) (fun i=>s.size-(intOf i).toNat)
  case atStart=>exact⟨0,by omega,by omega,rfl,wI.zero s⟩
  case round=>
   obtain⟨k,j,m,rfl,b⟩:=hrel;have c:=Zh b;clear b;by_cases a:k<s.size
   ·by_cases l:(s[k].toNat:Int)<32
    ·go_wp2_with fail;go_ret;exact⟨MB (wP a (.inl l)).symm,rfl⟩
    ·have f:32<=(s[k].toNat:Int):=cA;by_cases g:126<(s[k].toNat:Int)
     ·go_wp2_with fail;go_ret;exact⟨MB (wP a (.inr g)).symm,rfl⟩
     ·go_wp2_with fail;go_round
      case rel=>exact⟨k+1,by omega,by omega,by go_num,c.next a f cA⟩
      case measure=>simp[intOf];omega
   ·obtain rfl:k=s.size:=cA
    go_wp2_with fail;go_ret;exact⟨MB (Ni cA c).symm,rfl⟩
theorem LX(s:wA)(w:World)(hs:s.size<=maxLen):fA 53 #[bA s] w fun e w'=>e= .returned (.bool (YB s.data.toList))/\w=w':=by
 unfold maxLen at hs;go_enter func53,ntmps53;go_wp2_with fail;go_loop [3] (fun i=>∃k:Nat,0<=k/\k<=s.size/\i = aA k/\wI s k) (fun i=>s.size-(intOf i).toNat)
 case atStart=>exact⟨0,by omega,by omega,rfl,wI.zero s⟩
 case round=>
  obtain⟨k,g,l,rfl,b⟩:=hrel;have c:=Zh b;clear b;by_cases a:k<s.size
  ·by_cases j:(s[k].toNat:Int)<32
   ·go_wp2_with fail;go_ret;exact⟨MB (wP a (.inl j)).symm,rfl⟩
   ·have d:32<=(s[k].toNat:Int):=cA;by_cases f:126<(s[k].toNat:Int)
    ·go_wp2_with fail;go_ret;exact⟨MB (wP a (.inr f)).symm,rfl⟩
    ·go_wp2_with fail;go_round
     case rel=>exact⟨k+1,by omega,by omega,by go_num,c.next a d cA⟩
     case measure=>simp[intOf];omega
  ·obtain rfl:k=s.size:=cA
   go_wp2_with fail;go_ret;exact⟨MB (by rw[ig c.out];exact decide_eq_decide.mpr cA),rfl⟩
end P1
namespace P4
open Go.RowKit Kd
theorem Wp(w:World)(ty:TypeId)(b o c:Nat)(hc:∀j,j<2->(w.cell? ⟨b,o+j,none⟩).isSome=true)(hf:∀j,j<2->w.frozen? ⟨b,o+j,none⟩=false):
 (Builtin.clear_ #[139] ty #[.slice (some (dA b o)) 1 c]).run prog w= .ok (.tuple #[]) (w.setCells b o [aA 0,(.pointer none)]):=by
 have a:=run_storeCells_cells (P:=prog) b o [aA 0,(.pointer none)] 0 w (by simpa using hc) (by simpa using hf) (by simp[Value.oneCell']);simp only[Nat.add_zero] at a;have d:(Builtin.zeroCells (Value.agg #[aA 0,(.pointer none)]).cells 1).toList=[aA 0,(.pointer none)]:=by
  simp[Builtin.zeroCells,Value.cells,Array.range]
 simp[Builtin.clear_,run_underlying underlying139,d,a]
theorem J7{cur c1 c2:Array Value}{xs news zs:List Value}{a m s:Nat}(h:cur.toList.take ((a+1+m)*s)=xs)(hs:(a+1+m)*s<=cur.size)(hn:news=xs.drop ((a+1)*s))(hz:zs.length=s)
 (e1:c1.size=cur.size) (h1:∀k,k<cur.size->c1[k]? = if a*s<=k/\k<a*s+news.length then news[k-a*s]? else cur[k]?)
 (e2:c2.size=c1.size) (h2:∀k,k<c1.size->c2[k]? = if(a+m)*s<=k/\k<(a+m)*s+zs.length then zs[k-(a+m)*s]? else c1[k]?):
 c2.toList.take ((a+m)*s)=xs.take (a*s)++news:=by
 have g:(a+1+m)*s=a*s+s+m*s:=(by rw[Nat.add_mul,Nat.add_mul,Nat.one_mul]);have i:(a+m)*s=a*s+m*s:=Nat.add_mul _ _ _;have j:(a+1)*s=a*s+s:=(by rw[Nat.add_mul,Nat.one_mul]);have e:xs.length=a*s+s+m*s:=(by rw[<-h,List.length_take,Array.length_toList];omega);have f:news.length=m*s:=(by rw[hn,List.length_drop];omega);have hx:∀k,k<xs.length->xs[k]? = cur[k]?:=by
  intro k b;rw[<-h,List.getElem?_take,if_pos cA,Array.getElem?_toList]
 apply List.ext_getElem?;intro k;rw[List.getElem?_take];by_cases b:k<(a+m)*s
 ·rw[if_pos b,Array.getElem?_toList,h2 k cA,if_neg cA,h1 k cA];by_cases c:k<a*s
  ·rw[if_neg cA,List.getElem?_append_left (by rw[List.length_take];omega),List.getElem?_take,if_pos c,hx k cA]
  ·have d:(xs.take (a*s)).length=a*s:=(by rw[List.length_take];omega);rw[if_pos cA,List.getElem?_append_right cA,d]
 ·rw[if_neg b,List.getElem?_eq_none];rw[List.length_append,List.length_take];omega
theorem Bd(g i r c:Nat){B:Nat}{l:List (Sl Nat)}(w:World)(hl:l.length=i+1+r)(hl2:i+1+r<=1000000)(h:pH.Own w B (.slice (some (dA g 0)) (i+1+r) c) l):
 fA 191 #[.slice (some (dA g 0)) (i+1+r) c,aA i,aA ((i:Int)+1)] w fun e w'=>
  e= .returned (.slice (some (dA g 0)) (i+r) c)/\pH.Own w' B (.slice (some (dA g 0)) (i+r) c) (l.eraseIdx i)/\gA (fun k=>k=g) w w':=by
 obtain⟨O,E,F,G,H⟩:=info_parts Ga;rcases h.form with⟨hv,_⟩|⟨g',c',cur,hv,_,hBg,hlt,hh,zC,cC,f,x⟩
 ·cases hv
 injection hv with e1 e2 e3;injection e1 with e1;injection e1 with e1;subst e1;subst e3;clear e2;rw[hl] at zC x;have f:cur.size=c*2:=f;have x:cur.toList.take ((i+1+r)*2)=pH.cells l:=x;obtain⟨news,a⟩:∃news,news=pH.cells (l.drop (i+1)):=⟨_,rfl⟩;have y:news.length=r*2:=(by rw[a,Kind.fH,List.length_drop,hl];show(i+1+r-(i+1))*2=r*2;omega);have v:news=(pH.cells l).drop ((i+1)*2):=(by rw[a,Kind.vN];rfl);have b:∀k,w.drew.cell? (dA g k)=cur[k]?:=fun k=>cell_of_row w.drew g k _ _ (0,0) hh
 have P:Hid (news.length=r*2):=y;have Q:Hid (∀u∈news,u.oneCell'=true):=(by intro u m;rw[a] at m;exact Kind.xP _ _ u m);have R:Hid (∀t,t<news.length->(w.drew.cell? ⟨g,0+i*2+t,none⟩).isSome=true/\w.drew.frozen? ⟨g,0+i*2+t,none⟩=false):=by
  intro t z;refine⟨by rw[b,Array.getElem?_eq_getElem cA];rfl,?_⟩;have n:w.drew.heap[g]? = some (.cells cur pH.e (0,0)):=hh;simp[World.frozen?,n]
 have p:∀t u,news[t]? = some u->w.drew.cell? ⟨g,(i+1)*2+t,none⟩=some u:=by
  intro t u m;have z:=(List.getElem?_eq_some_iff.1 m).1;rw[b,<-m,v,List.getElem?_drop,<-x,List.getElem?_take,if_pos cA,Array.getElem?_toList]
 obtain⟨A,hA,T⟩:∃A:Addr,(if c=i+1 then(some ((dA g 0):Addr)) else some ⟨g,(i+1)*2,none⟩)=some A/\Hid (∀t u,news[t]? = some u->w.drew.cell? (A.add t)=some u):=by
  by_cases C:c=i+1
  ·refine⟨(dA g 0),if_pos C,fun t u m=>?_⟩;have z:=(List.getElem?_eq_some_iff.1 m).1;omega
  ·refine⟨⟨g,(i+1)*2,none⟩,if_neg C,fun t u m=>?_⟩;rw[Addr.add_lit];exact p t u m
 obtain⟨d,o⟩:∃d,d=w.drew.setCells g (0+i*2) news:=⟨_,rfl⟩;have n:w.drew.heap[g]? = some (.cells cur pH.e (0,0)):=hh;obtain⟨U,D,I,L⟩:=FH g news (0+i*2) w.drew cur _ _ n;rw[<-o] at D;have V:∀J q,(Builtin.clear_ #[139] J #[.slice (some ⟨g,(i+r)*2,none⟩) (i+1+r-(i+r)) q]).run prog d= .ok (.tuple #[]) (d.setCells g ((i+r)*2) [aA 0,(.pointer none)]):=
  fun J q=>by
   rw[show i+1+r-(i+r)=1 by omega];exact Wp d J g ((i+r)*2) q (fun j hj=>by rw[cell_of_row d g _ _ _ (0,0) D,Array.getElem?_eq_getElem cA];rfl) (fun j _=>by simp[World.frozen?,D])
 obtain⟨c2,M,K,N⟩:=FH g [aA 0,(.pointer none)] ((i+r)*2) d U _ _ D;have W:Hid (pH.Own (d.setCells g ((i+r)*2) [aA 0,(.pointer none)]) B (.slice (some (dA g 0)) (i+r) c) (l.eraseIdx i)):=by
  refine Kind.wG (by rw[List.length_eraseIdx_of_lt cA];omega) hBg M cA cC (by rw[K,I];exact f) ?_;have X:=J7 (s:=2) x cA v (zs:=[aA 0,(.pointer none)]) rfl I (fun k Y=>by have:=L k Y;rwa[Nat.zero_add] at this) K N;rw[show pH.size=2 from rfl,X,oW,Kind.yK,Kind.uN,<-a];rfl
 have Z:Hid (gA (fun k=>k=g) w (d.setCells g ((i+r)*2) [aA 0,(.pointer none)])):=by
  rw[o];exact gA.setCells (S:=fun k=>k=g) (gA.setCells (S:=fun k=>k=g) (gA.drew (gA.refl _ w)) (fun _=>rfl) _ _) (fun _=>rfl) _ _
 have hW:Hid (d=w.drew.setCells g (0+i*2) news):=o;have a0:i<=c:=cA;have a1:i+1<=c:=cA;have a2:((i:Int)==(i:Int)+1)=false:=beq_eq_false_iff_ne.2 cA;unfold maxLen at cC;have a3:(0:Int)<=(i:Int)+1:=cA;have a4:(i:Int)+1<=(i:Int)+1+(r:Int):=cA;clear o hh n f x a y v b p D I L M K N h hl F H;go_enter func191,ntmps191;go_wp2_with fail
 go_region_law (refine step_append_room rfl (.tmp 22) (.tmp 25) 139 rfl 150 O 2 underlying139 E G g 0 i c (by simp[Act.eval,Act.put]) A r (c-(i+1)) news (by simp[Act.eval,Act.put]) P T Q cA R ?_;rw[<-hW.out])
 go_wp2;go_ret;exact⟨rfl,W,Z⟩
end P4
namespace P3
open Go.RowKit
theorem PA{B:Nat}{a w:World}(h:Below B a w)(n:Nat):Below B a (w.drewN n):=⟨h.os,h.tape,h.output,h.size,h.block⟩
theorem MB{a b:Bool}(h:a=b):Ending.returned (.bool a)= .returned (.bool b):=by rw[h]
def pA(w:World)(B:Nat)(A:jA)(l:List At):Prop:=
 ∀k (h:k<l.length),∃b o,A=some (dA b o)/\b<B/\w.cell? ⟨b,o+k*3,none⟩=some (bA l[k].nm)/\w.cell? ⟨b,o+k*3+1,none⟩=some (bA l[k].vl)/\w.cell? ⟨b,o+k*3+2,none⟩=some (.bool l[k].st)
theorem pA.below{w w':World}{B C:Nat}{A:jA}{l:List At}(h:pA w B A l)(hb:Below C w w')(hBC:B<=C):pA w' B A l:=by
 intro k c;obtain⟨b,o,d,a,e,f,g⟩:=h k c;refine⟨b,o,d,a,?_,?_,?_⟩
 ·rw[hb.cell (by show b<C;omega)];exact e
 ·rw[hb.cell (by show b<C;omega)];exact f
 ·rw[hb.cell (by show b<C;omega)];exact g
theorem pA.more{w:World}{B B':Nat}{A:jA}{l:List At}(h:pA w B A l)(hB:B<=B'):pA w B' A l:=by
 intro k a;obtain⟨b,o,c,d,e⟩:=h k a;exact⟨b,o,c,by omega,e⟩
theorem pA.take{w:World}{B:Nat}{A:jA}{l:List At}(h:pA w B A l)(n:Nat):pA w B A (l.take n):=by
 intro k c;obtain⟨b,o,d,a,e⟩:=h k (by rw[List.length_take] at c;omega);exact⟨b,o,d,a,by simpa using e⟩
theorem pA.grown{w w':World}{B:Nat}{A:jA}{l:List At}{row:Option Nat}(h:pA w B A l)(hg:w.grownBy w' row)(hB:B<=w.heap.size)(hr:∀b o,A=some (dA b o)->some b≠row):pA w' B A l:=by
 intro k d;obtain⟨b,o,c,a,e,f,g⟩:=h k d;have key:∀i,w'.cell? (dA b i)=w.cell? (dA b i):=fun i=>World.cell?_of_block (hg.block b cA (hr b o c))
 exact⟨b,o,c,a,by rw[key];exact e,by rw[key];exact f,by rw[key];exact g⟩
theorem pA.one{w:World}{g:Nat}{a:At}(h:w.heap[g]? = some (.cells #[bA a.nm,bA a.vl,.bool a.st] 119 (0,0))):pA w (g+1) (some (dA g 0)) [a]:=by
 intro k b;have:k=0:=(by simpa using b);subst this;exact⟨g,0,rfl,by omega,cell_of_row w g 0 _ _ (0,0) h,cell_of_row w g 1 _ _ (0,0) h,cell_of_row w g 2 _ _ (0,0) h⟩
theorem pA.on{w w':World}{A:jA}{l:List At}(h:pA w w.heap.size A l)(hb:eA w w'):pA w' w'.heap.size A l:=(h.below hb Zl).more hb.size
def XC(w:World)(g:Nat)(a:At):Prop:=w.heap[g]? = some (.cells #[bA a.nm,bA a.vl,.bool a.st] 119 (0,0))
section
variable{w w':World}{g:Nat}{a:At}
theorem XC.lt(h:XC w g a):g<w.heap.size:=by
 rcases Nat.lt_or_ge g w.heap.size with hlt|hge
 ·exact hlt
 ·unfold XC at h;rw[Array.getElem?_eq_none hge] at h;cases h
theorem XC.c0(h:XC w g a):w.cell? (dA g 0)=some (bA a.nm):=cell_of_row w g 0 _ _ (0,0) h
theorem XC.c1(h:XC w g a):w.cell? (dA g 1)=some (bA a.vl):=cell_of_row w g 1 _ _ (0,0) h
theorem XC.c2(h:XC w g a):w.cell? (dA g 2)=some (.bool a.st):=cell_of_row w g 2 _ _ (0,0) h
theorem XC.frozen(h:XC w g a)(i:Nat):w.frozen? (dA g i)=false:=by
 unfold XC at h;simp[World.frozen?,h]
theorem XC.new(w:World)(a:At):XC (w.alloc (.cells #[bA a.nm,bA a.vl,.bool a.st] 119)) w.heap.size a:=heap_alloc_new w _
theorem XC.sV(w:World){a:At}{s:Bool}(h:a.st=s):XC (w.alloc (.cells #[bA a.nm,bA a.vl,.bool s] 119)) w.heap.size a:=by
 subst h;exact XC.new w a
theorem XC.YD(w:World)(o:Obj)(a:At):XC ((w.alloc o).alloc (.cells #[bA a.nm,bA a.vl,.bool a.st] 119)) (w.heap.size+1) a:=by
 have:=XC.new (w.alloc o) a;simpa using this
theorem XC.alloc(h:XC w g a)(o:Obj):XC (w.alloc o) g a:=(Below.heap_alloc w o g h.lt).trans h
theorem XC.below{B:Nat}(h:XC w g a)(hb:Below B w w')(hg:g<B):XC w' g a:=(hb.block g hg).trans h
end
theorem zc:prog.eqGuardType prog.depth 119=false:=by kernel_rfl
theorem mr:prog.stoodInHeld 119=false:=by kernel_rfl
theorem Tp(a b:At)(d:Nat)(w:World):(Op.equalIn (d+2) 119 (.agg #[bA a.nm,bA a.vl,.bool a.st]) (.agg #[bA b.nm,bA b.vl,.bool b.st])).run prog w= .ok (PF a b) w:=by
 rw[run_equalIn_struct w (d+1) 119 _ _ (by unfold Program.fieldsOf;rw[underlying119]) mr];simp[Program.fieldsOf,underlying119,Op.eqFields,go_sem,underlying9,underlying4,part];unfold PF;by_cases c:a.nm.toList=b.nm.toList<;>by_cases e:a.vl.toList=b.vl.toList<;>by_cases f:a.st=b.st<;>simp[c,e,f]
theorem GQ{a b:At}{r:Bool}(h:PF a b=r)(w:World):(binOp .neq 119 (.agg #[bA a.nm,bA a.vl,.bool a.st]) (.agg #[bA b.nm,bA b.vl,.bool b.st])).run prog w= .ok (.bool (!r)) w:=by
 rw[run_neq_struct,Tp a b 9998 w,h];rfl
theorem lZ{o o':Option At}(h:o=o'):Ending.returned (.tuple #[.agg #[bA (o.getD At.none).nm,bA (o.getD At.none).vl,.bool (o.getD At.none).st],.bool o.isSome])= .returned (.tuple #[.agg #[bA (o'.getD At.none).nm,bA (o'.getD At.none).vl,.bool (o'.getD At.none).st],.bool o'.isSome]):=by rw[h]
theorem Si(l:List At)(A:jA)(n c:Nat)(s:wA)(w:World)(hn:l.length=n)(hl:n<=1000000)(H:pA w w.heap.size A l):
 fA 164 #[.slice A n c,bA s] w fun e w'=>e= .returned (.tuple #[.agg #[bA ((vF l s).getD At.none).nm,bA ((vF l s).getD At.none).vl,.bool ((vF l s).getD At.none).st],.bool (vF l s).isSome])/\eA w w':=by
 have t:=Zh H;have f:=Zh hn;clear H hn;go_enter func164,ntmps164;go_wp2_with fail;go_loopw [10] (fun i wr=>∃k:Nat,k<=n/\i = aA k/\Hid (eA w wr)/\Hid (XC wr w.heap.size At.none)/\Hid (vF (l.take k) s=none)) (fun i _=>n-(intOf i).toNat)
 case atStart=>exact⟨0,by omega,rfl,Zh (Zb _ _),Zh (XC.new w At.none),Zh (by simp[vF])⟩
 case round=>
  obtain⟨k,y,rfl,g,d,j⟩:=hrel;have u:w.heap.size<wr.heap.size:=d.lt;have p:=d.c0;have q:=d.c1;have r:=d.c2;have z:=d.frozen 0;have B:=d.frozen 1;have C:=d.frozen 2;by_cases x:k<n
  ·have a:k<l.length:=(uA f.out);obtain⟨b,o,rfl,D,E,F,G⟩:=(t.below g Zl) k a;go_wp2_with fail
   ·refine bodyPost_ret (v:=.tuple #[.agg #[bA l[k].nm,bA l[k].vl,.bool l[k].st],.bool true]) (by simp[results,results164,go_sem,p,q,r,u]) rfl ⟨lZ (o:=some l[k]) (Ce j a ‹_›).symm,?_⟩;refine Below.alloc (Below.setCell (Below.setCell (Below.setCell g ?_ _) ?_ _) ?_ _) ?_ _<;>first|exact Zl|(simp;omega)
   ·go_roundw
    case rel=>exact⟨k+1,by omega,by go_num,Zh (g.alloc cA _),Zh (d.alloc _),Zh (DW j a ‹_›)⟩
    case measure=>simp[intOf];omega
  ·obtain rfl:k=n:=cA
   have m:=Zh (Be f j);go_wp2_with fail;refine bodyPost_ret (v:=.tuple #[.agg #[bA At.none.nm,bA At.none.vl,.bool At.none.st],.bool false]) (by simp[results,results164,go_sem,p,q,r,At.none]) rfl ⟨lZ (o:=none) m.symm,?_⟩;refine Below.setCell (Below.setCell (Below.setCell g ?_ _) ?_ _) ?_ _<;>exact Zl
theorem lU(l:List At)(A:jA)(n c:Nat)(s:wA)(w:World)(hn:l.length=n)(hl:n<=1000000)(H:pA w w.heap.size A l):
 fA 137 #[.slice A n c,bA s] w fun e w'=>e= .returned (.bool (nD l s))/\eA w w':=by
 have f:=Zh H;have a:=Zh hn;clear H hn;go_enter func137,ntmps137;go_wp2_with fail;refine(Si l A n c s _ a hl f).mono ?_;rintro e g ⟨rfl,b⟩;have d:=Zh b;clear b;go_wp2_with fail;go_ret;exact⟨rfl,d.alloc d.size _⟩
theorem xC(l:List At)(A:jA)(n c:Nat)(s:wA)(w:World){r:Bool}(hr:nD l s=r)(hn:l.length=n)(hl:n<=1000000)(H:pA w w.heap.size A l):
 fA 137 #[.slice A n c,bA s] w fun e w'=>e= .returned (.bool r)/\eA w w':=by
 subst hr;exact lU l A n c s w hn hl H
end P3
namespace P4
open Go.RowKit Kd
def Fs(w:World)(R:Nat)(e:Ending)(w':World):Prop:=
 ∃p:Nat,e= .returned (.tuple #[iA p,.nilIface])/\SC w' w.heap.size p R 0 (vA) []/\eA w w'
theorem Hm(r:Int)(w:World)(h:r<1\/200<r):fA 42 #[aA r] w fun e w'=>
 e= .returned (.tuple #[.pointer none,.iface 56 (aA 1)])/\w=w':=by
 by_cases a:r<1
 ·go_enter func42,ntmps42;go_wp2;go_ret2;exact⟨rfl,rfl⟩
 ·have b:200<r:=cA;go_enter func42,ntmps42;go_wp2;go_ret2;exact⟨rfl,rfl⟩
theorem kj(r:Int)(w:World)(h1:1<=r)(h2:r<=200):fA 42 #[aA r] w (Fs w r.toNat):=by
 obtain⟨R,rfl⟩:=Int.eq_ofNat_of_zero_le (show 0<=r by omega);have b:¬(R:Int)<1:=cA;have c:¬200<(R:Int):=cA;have a:R<=200:=cA;go_enter func42,ntmps42;go_wp2;go_ret2;exact⟨_,rfl,⟨heap_alloc_new w _,Kind.Own.nil _ _ _,Zl,Cm,by omega,by simp,a⟩,Zb _ _⟩
section
variable{B p R:Nat}{n:Int}{v:Value}{l:List (Sl Nat)}
theorem QX{m:Nat}(w:World)(hm:l.length=m)(h:SC w B p R n v l):fA 74 #[iA p] w fun e w'=>e= .returned (aA m)/\w=w':=by
 obtain⟨A,k,c,rfl,d,a,b,f,g⟩:=h.own.slice;obtain rfl:k=m:=cA
 have j:=h.c2;have i:k<=1000000:=(by have:=h.len;have:=h.room;omega);clear g f b a h d hm;go_enter func74,ntmps74;go_wp2;go_ret;exact⟨rfl,rfl⟩
theorem sg{m:Int}(w:World)(hn:n<=100000)(hm:m=n+1)(h:SC w B p R n v l):fA 72 #[iA p] w fun e w'=>e= .returned (aA m)/\w=w':=by
 subst hm;have a:=h.c1;have b:=h.pos;clear h;go_enter func72,ntmps72;go_wp2_with fail;refine zA (fj _ _ _ _ a) ?_;go_wp2;go_ret;exact⟨rfl,rfl⟩
theorem RX(w:World)(h:SC w B p R n v l):fA 73 #[iA p] w fun e w'=>e= .returned (aA R)/\w=w':=by
 have a:=h.c0;clear h;go_enter func73,ntmps73;go_wp2;go_ret;exact⟨rfl,rfl⟩
def Gs(w:World)(B p R:Nat)(n:Int)(v:Value)(l:List (Sl Nat))(x:Nat)(e:Ending)(w':World):Prop:=
 e= .returned (.tuple #[aA (n+1),.nilIface])/\∃v',SC w' B p R (n+1) v' (l++[⟨n+1,x⟩])/\gA (eF p v) w w'/\∀g,v'.ownBlock=some g->v.ownBlock=some g\/w.heap.size<=g
theorem ug(x:Nat)(w:World)(hl:l.length=R)(h:SC w B p R n v l):fA 76 #[iA p,(iA x)] w fun e w'=>
 e= .returned (.tuple #[aA 0,.iface 56 (aA 6)])/\eA w w':=by
 obtain⟨A,k,c,rfl,d,a,b,f,g⟩:=h.own.slice;have j:=h.c0;have m:=h.c2;have i:R<=k:=cA;have o:R<=200:=h.room;clear g f b a h d hl;go_enter func76,ntmps76;go_wp2_with fail;go_quiet (fail);go_wp2_with fail;go_ret2;exact⟨rfl,PA Ze _⟩
theorem mj(x:Nat)(w:World)(hl:l.length<R)(hn:n<=100000)(h:SC w B p R n v l):fA 76 #[iA p,(iA x)] w (Gs w B p R n v l x):=by
 obtain⟨A,k,c,rfl,K,E,F,Q,T⟩:=h.own.slice;have U:=h.c0;have L:=h.c1;have C:=h.c2;have M:=h.frozen 1;have H:=Zh h;have N:=h.pos;have V:k<R:=cA;have W:R<=200:=h.room;have t:=Zh K;clear T Q F E h K hl;go_enter func76,ntmps76;go_wp2_with fail;go_quiet (fail);go_wp2_with fail;refine(Em _ _ _ _ N cA (by exact L) (by exact M)).mono ?_;rintro e s ⟨rfl,o⟩;have f:s.heap[p]? = some (.cells #[aA R,aA (n+1),.slice A k c] 141 (0,0)):=by
  rw[<-o];exact heap_set (by exact H.mA) 1 _
 have u:=Zh f;have G:Hid (pH.Own s B (.slice A k c) l):=Zh (H.own.sB fun g i=>by
  rw[<-o];exact Below.heap_setCell _ _ _ _ (by rintro rfl;exact H.apart i))
 have r:Hid (gA (eF p (.slice A k c)) w s):=Zh (by
  rw[<-o];exact gA.setCell (gA.drewN (gA.refl _ _) _) (fun _=> .inl rfl) _)
 have X:=IA 2 f;have Y:B<=s.heap.size:=(by have:=H.base;have:=H.lt;have:=r.size;omega);clear o f U L C M;go_wp2_with (at_builtin;refine pH.iC rfl _ _ rfl (v:=.slice A k c) (l:=l) (m:=[⟨n+1,x⟩]) (B:=B) rfl (G.alloc _) rfl rfl RB (Kind.pA.lit (heap_alloc_new _ _) rfl) (by have:=t.out;simp;omega) AA ?_;intro v' D j a y;have b:Hid (D.heap[p]? = some (.cells #[aA R,aA (n+1),.slice A k c] 141 (0,0))):=Zh ((a.block p (FA (oB u)) (fun e=>H.apart e.symm)).trans (oB u));have d2:=IA 2 b;have g2:D.frozen? (dA p 2)=false:=(by have Z:=b.out;simp[World.frozen?,Z]);obtain⟨O,P,C,rfl,_,_,_,_,_⟩:=j.slice;have q:=Zh j;have z:=Zh a;have I:Hid (∀g,(Value.slice O P C).ownBlock=some g->(Value.slice A k c).ownBlock=some g\/w.heap.size<=g):=Zh (by intro g i;rcases y with e|e<;>rw[e] at i;(exact .inl i);(have:=r.size;simp at i;exact .inr cA));clear j a y);go_ret2;have J:Hid (∀g,Value.ownBlock (.slice O P C)=some g->g≠p):=Zh fun g i e=>by
  subst e;obtain⟨d,hd⟩:=q.ty i;exact RA hd b nA rfl
 refine⟨rfl,_,⟨heap_set b 2 _,q.sB fun g i=>Below.heap_setCell _ _ _ _ (J g i),H.base,Dm H.VC N x,by omega,by have:=t.out;simp;omega,W⟩,?_,I⟩;exact gA.setCell (gA.trans (r.alloc _) (gA.sG (S:=eF p (.slice A k c)) z (fun g i _=> .inr i)) (fun _ _ h=>h)) (fun _=> .inl rfl) _
end
end P4
namespace P3
open Go.RowKit
theorem vJ(s:wA)(w:World){r:Bool}(h:P1.NC s.data.toList=r)(hs:s.size<=maxLen):fA 115 #[bA s] w fun e w'=>e= .returned (.bool r)/\w=w':=by
 subst h;exact P1.ZN s w hs
theorem rH(s:wA)(w:World){r:Bool}(h:P1.YB s.data.toList=r)(hs:s.size<=maxLen):fA 114 #[bA s] w fun e w'=>e= .returned (.bool r)/\w=w':=by
 subst h;exact P1.mZ s w hs
theorem rS{P:Program}{f:FuncId}{args:Array Value}{w:World}{n:Nat}{v:Value}
 (h:Calls P f args (w.drewN n) fun e w'=>e= .returned v/\w.drewN n=w'):Calls P f args (w.drewN n) fun e w'=>e= .returned v/\∃m,w'=w.drewN m:=
 h.mono fun _ _ ⟨he,hm⟩=>⟨he,n,hm.symm⟩
theorem MX{a w w':World}{B:Nat}{o:Obj}(h:Below B a w)(hB:B<=w.heap.size)(n:Nat)(h2:Below ((w.alloc o).drewN n).heap.size ((w.alloc o).drewN n) w'):Below B a w':=
 (PA (h.alloc hB o) n).trans (h2.mono (by show B<=(w.alloc o).heap.size;simp;omega))
def Wf(l:List At):Prop:=∀a∈l,a.nm.size<=maxLen/\a.vl.size<=maxLen
theorem Wf.at_{l:List At}(h:Wf l){k:Nat}(hk:k<l.length):l[k].nm.size<=maxLen/\l[k].vl.size<=maxLen:=h _ (List.getElem_mem hk)
theorem ZN(l:List At)(A:jA)(n c:Nat)(w:World)(hn:l.length=n)(hl:n<=1000000)(zC:n<=c)(hwf:Wf l)(H:pA w w.heap.size A l):
 fA 116 #[.slice A n c] w fun e w'=>e= .returned (.bool (bC l))/\eA w w':=by
 have t:=Zh H;have u:=Zh hn;have B:=Zh hwf;clear H hn hwf;by_cases I:8<n
 ·go_enter func116,ntmps116;go_wp2_with fail;go_ret;exact⟨MB (JX (uA u.out)).symm,Ze⟩
 ·go_enter func116,ntmps116;go_wp2_with fail;go_loopw [10] (fun i wr=>∃k:Nat,k<=n/\i = aA k/\Hid (eA w wr)/\Hid (QH l k)) (fun i _=>n-(intOf i).toNat)
  case atStart=>exact⟨0,by omega,rfl,Zh Ze,Zh (QH.zero _)⟩
  case round=>
   obtain⟨k,J,rfl,g,z⟩:=hrel;have s:w.heap.size<=wr.heap.size:=g.size;by_cases C:k<n
   ·have a:k<l.length:=(uA u.out);obtain⟨b,o,rfl,K,L,M,N⟩:=(t.below g Zl) k a;obtain⟨j,m⟩:=B.at_ a;cases hnm:P1.NC l[k].nm.data.toList
    ·have d:=Zh hnm;clear hnm;go_wp2_with fail;go_quiet ((go_at_call 115;exact rS (vJ _ _ d j)));go_wp2_with fail;go_ret;exact⟨MB (tM a (by rw[mI a,d.out];rfl)).symm,PA (g.alloc s _) _⟩
    ·have d:=Zh hnm;clear hnm;cases htx:P1.YB l[k].vl.data.toList
     ·have f:=Zh htx;clear htx;go_wp2_with fail;go_quiet ((first|(go_at_call 115;exact rS (vJ _ _ d j))|(go_at_call 114;exact rS (rH _ _ f m))));go_wp2_with fail;go_ret;exact⟨MB (tM a (by rw[mI a,f.out];simp)).symm,PA (g.alloc s _) _⟩
     ·have f:=Zh htx;clear htx;cases hh:nD (l.take k) l[k].nm
      ·have q:=Zh hh;clear hh;go_wp2_with fail;have v:=Zh (XC.new wr l[k]);have D:(0:Int)<=(k:Int):=cA;have E:(k:Int)<=(c:Int):=cA;go_region_held3 (fun w'=>w'.cell? ⟨wr.heap.size,0,none⟩=some (bA l[k].nm)/\w'.cell? ⟨wr.heap.size,1,none⟩=some (bA l[k].vl)) (go_keep) ((first
        |(go_at_call 115;refine zA (vJ _ _ d j) ?_)
        |(go_at_call 114;refine(rH _ _ f m).mono ?_;rintro e w' ⟨rfl,rfl⟩)
        |(go_at_call 137;refine(xC (l.take k) (some (dA b o)) k c _ _ q AA cA (((t.take k).on g).on (by first|exact PA (Zb _ _) _|exact Below.drew (Zb _ _)))).mono ?_;rintro e x ⟨rfl,p⟩;have r:XC x wr.heap.size l[k]:=XC.below (by exact v) p DA;have F:=r.c0;have G:=r.c1;have y:=Zh p;clear p)))
       go_wp2_with fail;go_roundw
       case rel=>exact⟨k+1,by omega,by go_num,Zh (MX g s _ y),Zh (z.next (by rw[mI a,d.out,f.out,q.out];rfl))⟩
       case measure=>simp[intOf];omega
      ·have q:=Zh hh;clear hh;go_wp2_with fail;have v:=Zh (XC.new wr l[k]);have D:(0:Int)<=(k:Int):=cA;have E:(k:Int)<=(c:Int):=cA;go_region_held3 (fun w'=>w'.cell? ⟨wr.heap.size,0,none⟩=some (bA l[k].nm)/\w'.cell? ⟨wr.heap.size,1,none⟩=some (bA l[k].vl)) (go_keep) ((first
        |(go_at_call 115;refine zA (vJ _ _ d j) ?_)
        |(go_at_call 114;refine zA (rH _ _ f m) ?_)
        |(go_at_call 137;refine(xC (l.take k) (some (dA b o)) k c _ _ q AA cA (((t.take k).on g).on (by first|exact PA (Zb _ _) _|exact Below.drew (Zb _ _)))).mono ?_;rintro e x ⟨rfl,p⟩;have r:XC x wr.heap.size l[k]:=XC.below (by exact v) p DA;have F:=r.c0;have G:=r.c1;have y:=Zh p;clear p)))
       go_wp2_with fail;go_ret;exact⟨MB (tM a (by rw[mI a,q.out];simp)).symm,MX g s _ y⟩
   ·obtain rfl:k=n:=cA
    go_wp2_with fail;go_ret;exact⟨MB (by rw[j7 z.out u.out];simp;omega),g⟩
end P3
namespace P5
def it(P:Int->Int):Nat->Int->Int
 |0,y=>y
 |k+1,y=>it P k (P y)
theorem UF(P:Int->Int):∀(k:Nat) (y:Int),it P (k+1) y=P (it P k y)
 |0,_=>rfl
 |k+1,y=>UF P k (P y)
theorem kL(P:Int->Int):∀(j k:Nat) (y:Int),it P (j+k) y=it P k (it P j y)
 |0,k,y=>by rw[Nat.zero_add];rfl
 |j+1,k,y=>by rw[show j+1+k=(j+k)+1 by omega];exact kL P j k (P y)
structure Tr(H:Int->Prop)(P:Int->Int)(K:Int->List Int):Prop where
 z:¬H 0
 p0:∀y,¬H y->P y=0
 lB:∀x c,c∈K x->H x/\H c/\P c=x
 par:∀y,P y≠0->y∈K (P y)
 IC:∀x,(K x).Nodup
 SL:∀y,∃k,it P k y=0
theorem kJ:∀(xs L:List Int),xs.Nodup->(∀x∈xs,x∈L)->xs.length<=L.length
 |[],_,_,_=>by simp
 |x:: r,L,hn,hs=>by
  have hx:x∈L:=hs x DA;obtain⟨h1,h2⟩:=List.nodup_cons.1 hn;have:=kJ r (L.erase x) h2 (fun y hy=>(List.mem_erase_of_ne (by rintro rfl;exact h1 hy)).2 (hs y (by simp[hy])));rw[List.length_erase_of_mem hx] at this;have hp:0<L.length:=List.length_pos_of_mem hx;simp only[List.length_cons];omega
section
variable{H:Int->Prop}{P:Int->Int}{K:Int->List Int}
theorem Tr.zero(h:Tr H P K):P 0=0:=h.p0 0 h.z
theorem Tr.NV(h:Tr H P K):∀k,it P k 0=0
 |0=>rfl
 |k+1=>by show it P k (P 0)=0;rw[h.zero];exact h.NV k
theorem Tr.FO(h:Tr H P K){k j:Nat}{y:Int}(hk:it P k y=0)(hj:k<=j):it P j y=0:=by
 obtain⟨d,rfl⟩:=Nat.exists_eq_add_of_le hj;rw[kL,hk,h.NV]
theorem Tr.SF(h:Tr H P K){y:Int}(hy:H y):y≠0:=fun e=>h.z (e▸hy)
theorem Tr.DH(h:Tr H P K){y:Int}(hy:P y≠0):H (P y):=(h.lB _ _ (h.par y hy)).1
theorem Tr.Hs(h:Tr H P K){y:Int}(hy:P y≠0):H y:=(h.lB _ _ (h.par y hy)).2.1
theorem Tr.k0(h:Tr H P K){x:Int}(hx:¬H x):K x=[]:=by
 cases e:K x with
 |nil=>rfl
 |cons c r=>exact absurd (h.lB x c (by rw[e];simp)).1 hx
theorem Tr.Tb(h:Tr H P K){y:Int}(hy:H y):∀i,it P i y≠0->H (it P i y)
 |0,_=>hy
 |i+1,hi=>by rw[UF] at hi|-;exact h.DH hi
def dH(P:Int->Int)(y:Int)(k:Nat):Prop:=it P k y=0/\∀i,i<k->it P i y≠0
theorem Ha(P:Int->Int):∀(k:Nat) (y:Int),it P k y=0->∃j,j<=k/\dH P y j
 |0,y,h=>⟨0,Zl,h,fun i hi=>absurd hi cA⟩
 |k+1,y,h=>by
  by_cases hy:y=0
  ·exact⟨0,by omega,hy,fun i hi=>absurd hi cA⟩
  ·obtain⟨j,hj,h1,h2⟩:=Ha P k (P y) h;refine⟨j+1,by omega,h1,fun i hi=>?_⟩;cases i with
   |zero=>exact hy
   |succ i=>exact h2 i cA
theorem Tr.dep(h:Tr H P K)(y:Int):∃k,dH P y k:=by
 obtain⟨k,a⟩:=h.SL y;obtain⟨j,_,b⟩:=Ha P k y a;exact⟨j,b⟩
theorem Tr.Im(h:Tr H P K){y:Int}{k:Nat}(hd:dH P y k){i j:Nat}(hij:i<j)(hj:j<k):it P i y≠it P j y:=by
 intro e;have a:it P (i+(k-j)) y=it P (j+(k-j)) y:=(by rw[kL,kL,e]);rw[show j+(k-j)=k by omega,hd.1] at a;exact hd.2 _ cA a
theorem Tr.KQ(h:Tr H P K){L:List Int}(hL:∀y,H y->y∈L){y:Int}(hy:H y){k:Nat}(hd:dH P y k):k<=L.length:=by
 have:=kJ ((List.range k).map fun i=>it P i y) L ?_ ?_
 ·simpa using this
 ·rw[List.Nodup,List.pairwise_map];refine List.Pairwise.imp_of_mem ?_ List.pairwise_lt_range;intro i j b c a;exact h.Im hd a (List.mem_range.1 c)
 ·intro x hx;obtain⟨i,b,rfl⟩:=List.mem_map.1 hx;exact hL _ (h.Tb hy i (hd.2 i (List.mem_range.1 b)))
theorem dH.lB{c y:Int}{k:Nat}(hc:c≠0)(hp:P c=y)(hd:dH P y k):dH P c (k+1):=by
 subst hp;refine⟨hd.1,fun i a=>?_⟩;cases i with
 |zero=>exact hc
 |succ i=>exact hd.2 i cA
def lF{α:Type}(F:Int->α)(i:Int)(v:α)(y:Int):α:=if y=i then v else F y
theorem rG{α:Type}(F:Int->α)(i:Int)(v:α):lF F i v i=v:=by simp[lF]
theorem yE{α:Type}(F:Int->α){i y:Int}(v:α)(h:y≠i):lF F i v y=F y:=by simp[lF,h]
theorem QU(P Q:Int->Int)(i:Int)(hi:∃k,it Q k i=0)(hQ:∀y,y≠i->Q y=P y):∀(k:Nat) (y:Int),it P k y=0->∃j,it Q j y=0
 |0,y,h=>⟨0,h⟩
 |k+1,y,h=>by
  by_cases e:y=i
  ·subst e;exact hi
  ·obtain⟨j,hj⟩:=QU P Q i hi hQ k (P y) h;exact⟨j+1,by show it Q j (Q y)=0;rw[hQ y e];exact hj⟩
theorem Tr.leave(h:Tr H P K)(i:Int):Tr H (lF P i 0) (lF K (P i) ((K (P i)).filter fun c=>decide (c≠i))):=by
 have key:∀x c,c∈lF K (P i) ((K (P i)).filter fun c=>decide (c≠i)) x↔c∈K x/\c≠i:=by
  intro x c;by_cases e:x=P i
  ·subst e;rw[rG];simp
  ·rw[yE _ _ e];refine⟨fun f=>⟨f,?_⟩,fun f=>f.1⟩;rintro rfl;exact e (h.lB _ _ f).2.2.symm
 refine⟨h.z,fun y g=>?_,fun x c f=>?_,fun y g=>?_,fun x=>?_,fun y=>?_⟩
 ·by_cases e:y=i
  ·subst e;rw[rG]
  ·rw[yE _ _ e];exact h.p0 y g
 ·obtain⟨j,l⟩:=(key x c).1 f;obtain⟨a,b,d⟩:=h.lB x c j;exact⟨a,b,by rw[yE _ _ l];exact d⟩
 ·by_cases e:y=i
  ·subst e;rw[rG] at g;exact absurd rfl g
  ·rw[yE _ _ e] at g|-;exact(key _ _).2 ⟨h.par y g,e⟩
 ·by_cases e:x=P i
  ·subst e;rw[rG];exact(h.IC _).filter _
  ·rw[yE _ _ e];exact h.IC x
 ·obtain⟨k,m⟩:=h.SL y;refine QU P _ i ⟨1,?_⟩ (fun z n=>yE _ _ n) k y m;show lF P i 0 i=0;exact rG _ _ _
theorem Tr.Js(h:Tr H P K){i p:Int}(hi:H i)(hp:H p)(h0:P i=0)(hno:∀j,it P j p≠i){L:List Int}(hL:∀c,c∈L↔c=i\/c∈K p)(hn:L.Nodup):Tr H (lF P i p) (lF K p L):=by
 have m:=h.SF hp;refine⟨h.z,fun y g=>?_,fun x c f=>?_,fun y g=>?_,fun x=>?_,fun y=>?_⟩
 ·by_cases e:y=i
  ·subst e;exact absurd hi g
  ·rw[yE _ _ e];exact h.p0 y g
 ·by_cases e:x=p
  ·subst e;rw[rG] at f;rcases(hL c).1 f with rfl|f
   ·exact⟨hp,hi,rG _ _ _⟩
   ·obtain⟨a,b,d⟩:=h.lB x c f;exact⟨a,b,by rw[yE _ _ (by rintro rfl;exact m (d.symm.trans h0))];exact d⟩
  ·rw[yE _ _ e] at f;obtain⟨a,b,d⟩:=h.lB x c f;exact⟨a,b,by rw[yE _ _ (by rintro rfl;rw[h0] at d;subst d;exact h.z a)];exact d⟩
 ·by_cases e:y=i
  ·subst e;rw[rG,rG];exact(hL y).2 (.inl rfl)
  ·rw[yE _ _ e] at g|-;have:=h.par y g;by_cases n:P y=p
   ·rw[n,rG];exact(hL y).2 (.inr (n▸this))
   ·rw[yE _ _ n];exact this
 ·by_cases e:x=p
  ·subst e;rw[rG];exact hn
  ·rw[yE _ _ e];exact h.IC x
 ·have l:∀j,it (lF P i p) j p=it P j p:=by
   intro j
   induction j with
   |zero=>rfl
   |succ j ih=>rw[UF,UF,ih,yE _ _ (hno j)]
  obtain⟨q,o⟩:=h.SL p;obtain⟨k,r⟩:=h.SL y;refine QU P _ i ⟨q+1,?_⟩ (fun z s=>yE _ _ s) k y r;show it (lF P i p) q (lF P i p i)=0;rw[rG,l];exact o
theorem Tr.go(h:Tr H P K){i:Int}(S:Int->Prop)(h0:P i=0)(hk:∀x c,S x->c∈K x->S c)(hp:∀c,S c->c≠i->S (P c))
 {P':Int->Int} {K':Int->List Int} (hP1:∀y,S y->P' y=0) (hP2:∀y,¬S y->P' y=P y) (hK1:∀y,S y->K' y=[]) (hK2:∀y,¬S y->K' y=K y):Tr (fun y=>H y/\¬S y) P' K':=by
 have f:∀y,S y\/¬S y:=fun y=>Classical.em _
 refine⟨fun q=>h.z q.1,fun y g=>?_,fun x c m=>?_,fun y g=>?_,fun x=>?_,fun y=>?_⟩
 ·rcases f y with e|e
  ·exact hP1 y e
  ·rw[hP2 y e];exact h.p0 y (fun r=>g ⟨r,e⟩)
 ·rcases f x with e|e
  ·rw[hK1 x e] at m;simp at m
  ·rw[hK2 x e] at m;obtain⟨a,b,d⟩:=h.lB x c m;have l:¬S c:=by
    intro l;by_cases o:c=i
    ·subst o;rw[h0] at d;subst d;exact h.z a
    ·exact e (d▸hp c l o)
   exact⟨⟨a,e⟩,⟨b,l⟩,by rw[hP2 c l];exact d⟩
 ·rcases f y with e|e
  ·exact absurd (hP1 y e) g
  ·rw[hP2 y e] at g|-;have p:=h.par y g;have:¬S (P y):=fun l=>e (hk _ _ l p)
   rw[hK2 _ this];exact p
 ·rcases f x with e|e
  ·rw[hK1 x e];exact List.nodup_nil
  ·rw[hK2 x e];exact h.IC x
 ·have:∀(k:Nat) (y:Int),it P k y=0->∃j,it P' j y=0:=by
   intro k
   induction k with
   |zero=>exact fun y g=>⟨0,g⟩
   |succ k ih=>
    intro y g;rcases f y with e|e
    ·exact⟨1,hP1 y e⟩
    ·obtain⟨j,s⟩:=ih (P y) g;exact⟨j+1,by show it P' j (P' y)=0;rw[hP2 y e];exact s⟩
  obtain⟨k,n⟩:=h.SL y;exact this k y n
def sub(K:Int->List Int):Nat->Int->List Int
 |0,_=>[]
 |f+1,x=>x:: (K x).flatMap (sub K f)
def Hb(K:Int->List Int):Nat->Int->Prop
 |0,_=>False
 |f+1,x=>∀c∈K x,Hb K f c
theorem sub_self{f:Nat}{x:Int}(h:Hb K f x):x∈sub K f x:=by
 cases f with
 |zero=>exact h.elim
 |succ f=>simp[sub]
theorem Q7:∀(f:Nat) (x y c:Int),Hb K f x->y∈sub K f x->c∈K y->c∈sub K f x
 |0,_,_,_,h,_,_=>h.elim
 |f+1,x,y,c,h,hy,hc=>by
  simp only[sub,List.mem_cons,List.mem_flatMap] at hy|-;rcases hy with rfl|⟨d,hd,hy⟩
  ·exact .inr ⟨c,hc,sub_self (h c hc)⟩
  ·exact .inr ⟨d,hd,Q7 f d y c (h d hd) hy hc⟩
theorem Tr.oU(h:Tr H P K):∀(f:Nat) (x y:Int),Hb K f x->y∈sub K f x->y≠x->P y∈sub K f x
 |0,_,_,hb,_,_=>hb.elim
 |f+1,x,y,hb,hy,hne=>by
  simp only[sub,List.mem_cons,List.mem_flatMap] at hy|-;rcases hy with rfl|⟨d,hd,hy⟩
  ·exact absurd rfl hne
  ·by_cases e:y=d
   ·subst e;exact .inl (h.lB _ _ hd).2.2
   ·exact .inr ⟨d,hd,h.oU f d y (hb d hd) hy e⟩
theorem Tr.WM(h:Tr H P K):∀(f:Nat) (x y:Int),y∈sub K f x->∃j,it P j y=x
 |0,_,_,hy=>by simp[sub] at hy
 |f+1,x,y,hy=>by
  simp only[sub,List.mem_cons,List.mem_flatMap] at hy;rcases hy with rfl|⟨d,hd,hy⟩
  ·exact⟨0,rfl⟩
  ·obtain⟨j,hj⟩:=h.WM f d y hy;exact⟨j+1,by rw[UF,hj];exact(h.lB _ _ hd).2.2⟩
theorem Tr.eR(h:Tr H P K):∀(f:Nat) (x y:Int),H x->y∈sub K f x->H y
 |0,_,_,_,hy=>by simp[sub] at hy
 |f+1,x,y,hx,hy=>by
  simp only[sub,List.mem_cons,List.mem_flatMap] at hy;rcases hy with rfl|⟨d,hd,hy⟩
  ·exact hx
  ·exact h.eR f d y (h.lB _ _ hd).2.1 hy
theorem Tr.MK(h:Tr H P K){x:Int}(hx:x≠0){j:Nat}(hj:it P (j+1) x=x):False:=by
 have:∀m,it P (m*(j+1)) x=x:=by
  intro m
  induction m with
  |zero=>rw[Nat.zero_mul];rfl
  |succ m ih=>rw[Nat.succ_mul,kL,ih,hj]
 obtain⟨k,b⟩:=h.SL x;have a:=h.FO (j:=k*(j+1)) b (Nat.le_mul_of_pos_right _ cA);rw[this] at a;exact hx a
theorem Tr.TX(h:Tr H P K){x c d e:Int}{i j:Nat}(hc:c∈K x)(hd:d∈K x)(hi:it P i e=c)(hj:it P j e=d)(hij:i<j):False:=by
 obtain⟨m,rfl⟩:∃m,j=i+(m+1):=⟨j-i-1,by omega⟩;rw[kL,hi] at hj;obtain⟨hx,g,a⟩:=h.lB _ _ hc;obtain⟨_,_,b⟩:=h.lB _ _ hd;have k:it P (m+1) x=x:=by
  have:it P (m+1+1) c=x:=(by rw[UF,hj,b]);have f:it P (1+(m+1)) c=x:=(by rw[Nat.add_comm];exact this);rw[kL] at f;have l:it P 1 c=x:=a;rwa[l] at f
 exact h.MK (h.SF hx) k
theorem Tr.YS(h:Tr H P K):∀(f:Nat) (x:Int),H x->(sub K f x).Nodup
 |0,_,_=>List.nodup_nil
 |f+1,x,hx=>by
  rw[sub,List.nodup_cons];refine⟨fun hm=>?_,?_⟩
  ·obtain⟨c,hc,hm⟩:=List.mem_flatMap.1 hm;obtain⟨j,hj⟩:=h.WM f c x hm;exact h.MK (h.SF hx) (j:=j) (by rw[UF,hj];exact(h.lB _ _ hc).2.2)
  ·have:∀L:List Int,(∀c∈L,c∈K x)->L.Nodup->(L.flatMap (sub K f)).Nodup:=by
    intro L
    induction L with
    |nil=>intro _ _;exact List.nodup_nil
    |cons c r ih=>
     intro hL hn;obtain⟨h1,h2⟩:=List.nodup_cons.1 hn;rw[List.flatMap_cons,List.nodup_append];refine⟨h.YS f c (h.lB _ _ (hL c DA)).2.1,ih (fun d hd=>hL d (by simp[hd])) h2,fun a ha b hb=>?_⟩;rintro rfl;obtain⟨d,hd,hb⟩:=List.mem_flatMap.1 hb;obtain⟨i,hi⟩:=h.WM f c a ha;obtain⟨j,hj⟩:=h.WM f d a hb;rcases Nat.lt_trichotomy i j with hl|hl|hl
     ·exact h.TX (hL c DA) (hL d (by simp[hd])) hi hj hl
     ·subst hl;rw[hi] at hj;subst hj;exact h1 hd
     ·exact h.TX (hL d (by simp[hd])) (hL c DA) hj hi hl
   exact this _ (fun c hc=>hc) (h.IC x)
theorem Tr.hb(h:Tr H P K){L:List Int}(hL:∀y,H y->y∈L):∀(f:Nat) (y:Int) (k:Nat),H y->dH P y k->L.length<f+k->Hb K f y
 |0,y,k,hy,hd,hf=>by have:=h.KQ hL hy hd;omega
 |f+1,y,k,hy,hd,hf=>fun c hc=>by
  obtain⟨_,hcH,hcp⟩:=h.lB _ _ hc;exact h.hb hL f c (k+1) hcH (hd.lB (h.SF hcH) hcp) cA
theorem Tr.MQ(h:Tr H P K){L:List Int}(hL:∀y,H y->y∈L){y:Int}(hy:H y):Hb K (L.length+1) y:=by
 obtain⟨k,a⟩:=h.dep y;exact h.hb hL _ y k hy a cA
def up(H:Int->Bool)(P:Int->Int):Nat->Int->List Int
 |0,_=>[]
 |f+1,x=>if H x=true then x:: up H P f (P x) else[]
end
section
variable{H:Int->Bool}{P:Int->Int}{K:Int->List Int}
theorem fR:∀(f:Nat) (a b:Int),b∈up H P f a->∃j,it P j a=b/\H b=true
 |0,_,_,h=>by simp[up] at h
 |f+1,a,b,h=>by
  rw[up] at h;split at h
  ·rename_i ha;rcases List.mem_cons.1 h with rfl|h
   ·exact⟨0,rfl,ha⟩
   ·obtain⟨j,hj,hb⟩:=fR f (P a) b h;exact⟨j+1,hj,hb⟩
  ·simp at h
theorem Tr.iV(h:Tr (fun y=>H y=true) P K):∀(f:Nat) (a:Int) (k j:Nat),H a=true->dH P a k->j<k->j<f->it P j a∈up H P f a
 |0,_,_,_,_,_,_,hf=>absurd hf cA
 |f+1,a,k,j,ha,hd,hj,hf=>by
  rw[up,if_pos ha];cases j with
  |zero=>exact List.mem_cons.2 (.inl rfl)
  |succ j=>
   have hp:P a≠0:=hd.2 1 cA;cases k with
   |zero=>omega
   |succ k=>
    exact List.mem_cons.2 (.inr (h.iV f (P a) k j (h.DH hp) ⟨hd.1,fun i hi=>hd.2 (i+1) cA⟩ cA cA))
theorem Tr.Xp(h:Tr (fun y=>H y=true) P K){L:List Int}(hL:∀y,H y=true->y∈L){a b:Int}(ha:H a=true)(hb:H b=true)(hn:b∉up H P (L.length+1) a)(j:Nat):it P j a≠b:=by
 intro e;obtain⟨k,c⟩:=h.dep a;have d:=h.KQ hL ha c;by_cases f:j<k
 ·exact hn (e▸h.iV _ a k j ha c f cA)
 ·have:=h.FO c.1 (by omega:k<=j);rw[this] at e;subst e;exact h.z hb
end
end P5
namespace P4
open Go.RowKit Kd
variable{B p R:Nat}{n:Int}{v:Value}{l:List (Sl Nat)}
theorem wT{t:Int}{k:Nat}{b:Bool}(w:World)(hk:oG l t=k)(hb:nD l t=b)(h:SC w B p R n v l):
 fA 83 #[iA p,aA t] w fun e w'=>e= .returned (.tuple #[aA k,.bool b])/\eA w w':=by
 subst hk;subst hb;exact qg t w h
theorem jQ(t:Int)(w:World)(ht:nD l t=false)(h:SC w B p R n v l):
 fA 48 #[iA p,aA t] w fun e w'=>e= .returned (.tuple #[(.pointer none),.bool false])/\eA w w':=by
 have b:=Zh ht;have H:=Zh h;clear ht h;go_enter func48,ntmps48;go_wp2_with fail;refine(wT w rfl b H).mono ?_;rintro e d ⟨rfl,a⟩;have c:=Zh a;clear a;go_wp2_with fail;go_ret2;exact⟨rfl,c⟩
theorem xJ(t:Int)(k:Nat){x:Nat}(w:World)(hk:k<l.length)(ht:l[k].id=t)(hx:l[k].x=x)(h:SC w B p R n v l):
 fA 48 #[iA p,aA t] w fun e w'=>e= .returned (.tuple #[(iA x),.bool true])/\eA w w':=by
 subst hx;have g:Hid (oG l t=k):=(by subst ht;exact nU h.VC hk);have i:Hid (nD l t=true):=(by subst ht;exact E7 h.VC hk);obtain⟨A,m,c,rfl,j,q,d,r,f⟩:=h.own.slice;have H:=Zh h;have s:=Zh f;have u:k<m:=cA;have y:m<=200:=(by have:=h.len;have:=h.room;omega);clear ht h f r j d;go_enter func48,ntmps48;go_wp2_with fail;refine(wT w g i H).mono ?_;rintro e D ⟨rfl,a⟩;have z:=Zh a;have C:=(H.below a Zl).c2;obtain⟨b,o,rfl,E,F,G⟩:=LV (s.on a) hk;clear a;go_wp2_with fail;go_ret2;exact⟨rfl,z⟩
def xr(w:World)(B p R:Nat)(n:Int)(v:Value)(l:List (Sl Nat))(t:Int)(e:Ending)(w':World):Prop:=
 e= .returned (.bool true)/\∃v',SC w' B p R n v' (l.eraseIdx (oG l t))/\gA (eF p v) w w'/\v'.ownBlock=v.ownBlock
theorem vg(t:Int)(w:World)(ht:nD l t=true)(h:SC w B p R n v l):
 fA 185 #[iA p,aA t] w (xr w B p R n v l t):=by
 have z:=Zh ht;have m:oG l t<l.length:=Ea ht;obtain⟨k,b⟩:∃k,k=oG l t:=⟨_,rfl⟩;rw[<-b] at m;have u:=Zh b.symm;rcases h.own.form with⟨_,rfl⟩|⟨g,c,cur,rfl,_⟩
 ·simp at m
 obtain⟨r,o⟩:∃r,l.length=k+1+r:=⟨l.length-(k+1),by omega⟩;rw[o] at h|-;have H:=Zh h;have A:=Zh o;have C:k+1+r<=200:=(by have:=h.len;have:=h.room;omega);clear ht h o b m;go_enter func185,ntmps185;go_wp2_with fail;refine(wT w u z H).mono ?_;rintro e D ⟨rfl,q⟩;have E:=Zh q;have d:=Zh (H.below q Zl);have F:=d.c2;clear q;go_wp2_with fail;refine(Bd g k r c D A cA d.own).mono ?_;rintro e j ⟨rfl,x,s⟩;have f:Hid (¬p=g):=Zh fun e=>d.apart (by rw[e];rfl)
 have G:=Zh s;have I:=Zh x;have a:=Zh ((s.block p d.lt f).trans d.mA);have L:=IA 2 a;have M:j.frozen? (dA p 2)=false:=(by have J:=a.out;simp[World.frozen?,J]);clear s x F;go_wp2_with fail;go_ret;refine⟨rfl,_,⟨heap_set a 2 _,?_,H.base,Vi H.VC _,H.pos,?_,H.room⟩,?_,rfl⟩
 ·rw[u.out];exact I.sB fun N y=>Below.heap_setCell _ _ _ _ (by simp only[Value.ownBlock,Option.some.injEq] at y;subst y;exact fun e=>f e.symm)
 ·have:=H.len;have:=List.length_eraseIdx_le l (oG l t);omega
 ·exact gA.setCell (gA.trans (gA.tB E (eF p _)) G (fun i _ K=> .inr (by subst K;rfl))) (fun _=> .inl rfl) _
end P4
namespace P5
structure Nd where
 id:Int
 par:Int
 tag:wA
 txt:wA
 key:wA
 attrs:List P3.At
 kids:List Int
 note:Int
structure D where
 l:List Nd
 n:Int
 R:Nat
 foc:Int
structure Rc where
 op:Int
 id:Int
 par:Int
 rA:Int
 tag:wA
 txt:wA
 key:wA
 attrs:List P3.At
def find(l:List Nd)(y:Int):Option Nd:=l.find? fun x=>decide (x.id=y)
def lA(l:List Nd)(y:Int):Bool:=(find l y).isSome
def yA(l:List Nd)(y:Int):Int:=match find l y with
 |some x=>x.par
 |none=>0
def xA(l:List Nd)(y:Int):List Int:=match find l y with
 |some x=>x.kids
 |none=>[]
def iB(l:List Nd)(i:Int)(f:Nd->Nd):List Nd:=l.map fun x=>if x.id=i then f x else x
def WA(l:List Nd):List Int:=l.map (·.id)
theorem iI{l:List Nd}{y:Int}{x:Nd}(h:find l y=some x):x∈l/\x.id=y:=by
 unfold find at h;exact⟨List.mem_of_find?_eq_some h,by simpa using List.find?_some h⟩
theorem YK{l:List Nd}{y:Int}:lA l y=true↔∃x∈l,x.id=y:=by
 unfold lA find;rw[List.find?_isSome];simp
theorem Ia{l:List Nd}{y:Int}:lA l y=false↔∀x∈l,x.id≠y:=by
 rw[<-Bool.not_eq_true,YK];exact⟨fun h x hx e=>h ⟨x,hx,e⟩,fun h ⟨x,hx,e⟩=>h x hx e⟩
theorem vG{l:List Nd}{y:Int}:lA l y=true↔y∈WA l:=by
 rw[YK];simp[WA]
def EB(l:List Nd):Prop:=l.Pairwise fun a b=>a.id<b.id
theorem EB.find:∀{l:List Nd},EB l->∀{x:Nd},x∈l->P5.find l x.id=some x
 |[],_,_,hx=>absurd hx DA
 |a:: r,h,x,hx=>by
  obtain⟨h1,h2⟩:=List.pairwise_cons.1 h;unfold P5.find;rw[List.find?_cons];by_cases e:a.id=x.id
  ·rw[decide_eq_true e];rcases List.mem_cons.1 hx with rfl|hx
   ·rfl
   ·have:=h1 x hx;omega
  ·rw[decide_eq_false e];rcases List.mem_cons.1 hx with rfl|hx
   ·exact absurd rfl e
   ·exact EB.find h2 hx
theorem EB.inj{l:List Nd}(h:EB l){i j:Nat}(hi:i<l.length)(hj:j<l.length)(e:l[i].id=l[j].id):i=j:=by
 have key:=List.pairwise_iff_getElem.1 h;rcases Nat.lt_trichotomy i j with hl|hl|hl
 ·have:=key i j hi hj hl;omega
 ·exact hl
 ·have:=key j i hj hi hl;omega
theorem TP(l:List Nd)(i:Int)(f:Nd->Nd)(hf:∀x,(f x).id=x.id)(y:Int):find (iB l i f) y=(find l y).map fun x=>if x.id=i then f x else x:=by
 unfold find iB;rw[List.find?_map];congr 1;apply congrArg (fun p=>List.find? p l);funext x;simp only[Function.comp];split
 ·rw[hf]
 ·rfl
theorem aO(l:List Nd)(i:Int)(f:Nd->Nd)(hf:∀x,(f x).id=x.id):WA (iB l i f)=WA l:=by
 unfold WA iB;rw[List.map_map];apply List.map_congr_left;intro x _;simp only[Function.comp];split
 ·exact hf x
 ·rfl
theorem gK{l:List Nd}{i:Int}{f:Nd->Nd}{z:Nd}:z∈iB l i f↔∃x∈l,z=if x.id=i then f x else x:=by
 unfold iB;rw[List.mem_map];exact⟨fun⟨x,hx,e⟩=>⟨x,hx,e.symm⟩,fun⟨x,hx,e⟩=>⟨x,hx,e.symm⟩⟩
theorem DI{l m:List Nd}(h:EB l)(e:WA m=WA l):EB m:=by
 have a:(WA l).Pairwise (· < ·):=(by unfold WA;rw[List.pairwise_map];exact h);rw[<-e] at a;unfold WA at a;rwa[List.pairwise_map] at a
theorem EB.lQ{l:List Nd}(h:EB l){k:Nat}(hk:k<l.length)(f:Nd->Nd):l.set k (f l[k])=iB l l[k].id f:=by
 apply List.ext_getElem
 ·simp[iB]
 ·intro j a d;have b:j<l.length:=(by simpa using a);simp only[iB,List.getElem_map,List.getElem_set];by_cases e:k=j
  ·subst e;simp
  ·rw[if_neg e,if_neg (fun c=>e (h.inj hk b c.symm))]
theorem bO(l:List Nd)(i:Int)(f:Nd->Nd)(hf:∀x,(f x).id=x.id)(y:Int):lA (iB l i f) y=lA l y:=by
 unfold lA;rw[TP l i f hf];simp
theorem cO{l:List Nd}{i:Int}{f:Nd->Nd}(hf:∀x,(f x).id=x.id){g:Nd->Int}(hg:∀x,(f x).par=g x)(y:Int):
 yA (iB l i f) y=match find l y with
  |some x=>if y=i then g x else x.par
  |none=>0:=by
 unfold yA;rw[TP l i f hf];cases e:find l y with
 |none=>rfl
 |some x=>
  obtain⟨_,hx⟩:=iI e;subst hx;simp only[Option.map_some];split
  ·exact hg x
  ·rfl
theorem VP{l:List Nd}{i:Int}{f:Nd->Nd}(hf:∀x,(f x).id=x.id){g:Nd->List Int}(hg:∀x,(f x).kids=g x)(y:Int):
 xA (iB l i f) y=match find l y with
  |some x=>if y=i then g x else x.kids
  |none=>[]:=by
 unfold xA;rw[TP l i f hf];cases e:find l y with
 |none=>rfl
 |some x=>
  obtain⟨_,hx⟩:=iI e;subst hx;simp only[Option.map_some];split
  ·exact hg x
  ·rfl
theorem Cd(l:List Nd)(q:Int->Bool)(y:Int):find (l.filter fun x=>q x.id) y=if q y=true then find l y else none:=by
 unfold find;rw[List.find?_filter];by_cases h:q y=true
 ·rw[if_pos h];apply congrArg (fun p=>List.find? p l);funext x;by_cases e:x.id=y
  ·subst e;simp[h]
  ·simp[e]
 ·rw[if_neg h,List.find?_eq_none];intro x _;by_cases e:x.id=y
  ·subst e;simp[h]
  ·simp[e]
theorem MN{l:List Nd}{x:Nd}(hx:lA l x.id=false)(y:Int):find (l++[x]) y=if y=x.id then some x else find l y:=by
 unfold find;rw[List.find?_append];by_cases e:y=x.id
 ·subst e;rw[if_pos rfl];have:List.find? (fun z=>decide (z.id=x.id)) l=none:=by
   have:=Ia.1 hx;rw[List.find?_eq_none];simpa using this
  rw[this];simp
 ·rw[if_neg e];cases List.find? (fun z=>decide (z.id=y)) l with
  |some z=>rfl
  |none=>simp[Ne.symm e]
theorem NQ{l:List Nd}{y:Int}{x:Nd}(h:find l y=some x):yA l y=x.par:=by unfold yA;rw[h]
theorem yJ{l:List Nd}{y:Int}{x:Nd}(h:find l y=some x):xA l y=x.kids:=by unfold xA;rw[h]
theorem xT{l:List Nd}{y:Int}(h:lA l y=true):∃x,find l y=some x:=Option.isSome_iff_exists.1 h
theorem LH{l:List Nd}{y:Int}{x:Nd}(h:find l y=some x):lA l y=true:=by unfold lA;rw[h];rfl
def rD(p:Int)(x:Nd):Nd:={x with par:=p}
def ZC(f:List Int->List Int)(x:Nd):Nd:={x with kids:=f x.kids}
def gH(a:List P3.At)(x:Nd):Nd:={x with attrs:=a}
def tH(t:wA)(x:Nd):Nd:={x with txt:=t}
def less(i:Int)(l:List Int):List Int:=l.filter fun c=>decide (c≠i)
def QA(l:List Nd)(i:Int):List Nd:=if yA l i=0 then l else iB (iB l (yA l i) (ZC (less i))) i (rD 0)
def ED(i b:Int)(l:List Int):List Int:=if b=0 then l++[i] else l.flatMap fun c=>if c=b then[i,c] else[c]
def OC(l:List Nd)(i p b:Int):List Nd:=iB (iB (QA l i) p (ZC (ED i b))) i (rD p)
def below(l:List Nd)(i:Int):List Int:=sub (xA l) (l.length+1) i
def aH(s:List Int)(l:List Nd):List Nd:=l.filter fun x=>!decide (x.id∈s)
def qE(l:List Nd)(i:Int):List Nd:=aH (below (QA l i) i) (QA l i)
def uE(l:List Nd)(a:Int):List Int:=up (lA l) (yA l) (l.length+1) a
def inside(l:List Nd)(a b:Int):Bool:=decide (b∈uE l a)
def wC(tag txt key:wA):Bool:=if tag.toList=[] then P1.YB txt.data.toList&&decide (key.toList=[]) else P1.NC tag.data.toList&&P1.YB key.data.toList&&decide (txt.toList=[])
def GC(i:Int)(tag txt key:wA):Nd:=⟨i,0,tag,txt,key,[],[],0⟩
def jD(d:D)(r:Rc):Int×D:=
 if r.id≠d.n+1\/wC r.tag r.txt r.key=false then(1,d)
 else if d.R<=d.l.length then(6,d)
 else(0,{d with l:=d.l++[GC r.id r.tag r.txt r.key],n:=d.n+1})
def MA(l:List Nd)(y:Int):wA:=match find l y with
 |some x=>x.tag
 |none=>⟨#[]⟩
def wB(t:wA):Bool:=decide (t.toList=[]) || P1.fC t.data.toList
def tC(l:List Nd)(i p b:Int):Int:=
 if lA l i=false\/lA l p=false\/b≠0/\lA l b=false then 2
 else if i=1 then 4
 else if wB (MA l p)=true then 3
 else if b≠0/\(yA l b≠p\/b=i) then 1
 else if inside l p i=true then 5
 else 0
def oD(d:D)(i p b:Int):Int×D:=if tC d.l i p b=0 then(0,{d with l:=OC d.l i p b}) else(tC d.l i p b,d)
def OD(d:D)(i:Int):Int×D:=
 if lA d.l i=false then(2,d)
 else if i=1 then(4,d)
 else(0,{d with l:=qE d.l i,foc:=if d.foc∈below (QA d.l i) i then 0 else d.foc})
def fD(d:D)(i:Int)(a:List P3.At):Int×D:=
 if lA d.l i=false then(2,d)
 else if(MA d.l i).toList=[] then(3,d)
 else if P3.bC a=false then(1,d)
 else(0,{d with l:=iB d.l i (gH a)})
def GD(d:D)(i:Int)(t:wA):Int×D:=
 if lA d.l i=false then(2,d)
 else if(MA d.l i).toList≠[] then(3,d)
 else if P1.YB t.data.toList=false then(1,d)
 else(0,{d with l:=iB d.l i (tH t)})
def VA(d:D)(r:Rc):Int×D:=
 if r.op=1 then jD d r
 else if r.op=2 then oD d r.id r.par r.rA
 else if r.op=3 then OD d r.id
 else if r.op=4 then fD d r.id r.attrs
 else if r.op=5 then GD d r.id r.txt
 else(1,d)
def vE(d:D)(i:Int):Int×D:=if i≠0/\lA d.l i=false then(2,d) else(0,{d with foc:=i})
def qK(x:Nd):Prop:=(x.tag.toList=[]->x.key.toList=[])/\x.tag.size<=60/\x.key.size<=60
structure WF(d:D):Prop where
 VC:EB d.l
 vK:∀x∈d.l,1<=x.id/\x.id<=d.n
 n0:1<=d.n
 len:d.l.length<=d.R
 room:d.R<=200
 root:lA d.l 1=true
 tL:yA d.l 1=0
 tr:Tr (fun y=>lA d.l y=true) (yA d.l) (xA d.l)
 elem:∀x∈d.l,x.tag.toList=[]->x.kids=[]
 mB:∀x∈d.l,x.attrs.length<=8
 foc:d.foc=0\/lA d.l d.foc=true
 fN:∀x∈d.l,qK x
 jN:∀x∈d.l,P3.bC x.attrs=true
theorem Ja(l:List Nd)(i v y:Int):lA (iB l i (rD v)) y=lA l y:=bO l i (rD v) (fun _=>rfl) y
theorem YM(l:List Nd)(i:Int)(f:List Int->List Int)(y:Int):lA (iB l i (ZC f)) y=lA l y:=bO l i (ZC f) (fun _=>rfl) y
theorem Ka(l:List Nd)(i v:Int):WA (iB l i (rD v))=WA l:=aO l i (rD v) (fun _=>rfl)
theorem OQ(l:List Nd)(i:Int)(f:List Int->List Int):WA (iB l i (ZC f))=WA l:=aO l i (ZC f) (fun _=>rfl)
theorem rZ{l:List Nd}{i v:Int}(hi:lA l i=true):yA (iB l i (rD v))=lF (yA l) i v:=by
 funext y;rw[cO (f:=rD v) (fun _=>rfl) (g:=fun _=>v) (fun _=>rfl)];unfold lF yA;by_cases e:y=i
 ·subst e;obtain⟨x,hx⟩:=xT hi;rw[hx]
 ·simp[e]
theorem yT{l:List Nd}{i v:Int}:xA (iB l i (rD v))=xA l:=by
 funext y;rw[VP (f:=rD v) (fun _=>rfl) (g:=fun x=>x.kids) (fun _=>rfl)];unfold xA;cases find l y<;>simp
theorem sZ{l:List Nd}{i:Int}{f:List Int->List Int}:yA (iB l i (ZC f))=yA l:=by
 funext y;rw[cO (f:=ZC f) (fun _=>rfl) (g:=fun x=>x.par) (fun _=>rfl)];unfold yA;cases find l y<;>simp
theorem ZS{l:List Nd}{i:Int}{f:List Int->List Int}(hi:lA l i=true):xA (iB l i (ZC f))=lF (xA l) i (f (xA l i)):=by
 funext y;rw[VP (f:=ZC f) (fun _=>rfl) (g:=fun x=>f x.kids) (fun _=>rfl)];unfold lF xA;by_cases e:y=i
 ·subst e;obtain⟨x,hx⟩:=xT hi;rw[hx]
 ·simp[e]
theorem mQ(l m:List Nd)(h:∀y,lA m y=lA l y):(fun y=>lA m y=true)=fun y=>lA l y=true:=by
 funext y;rw[h]
theorem hH(l:List Nd)(i:Int):WA (QA l i)=WA l:=by
 unfold QA;split
 ·rfl
 ·rw[Ka,OQ]
theorem eG(l:List Nd)(i y:Int):lA (QA l i) y=lA l y:=by
 unfold QA;split
 ·rfl
 ·rw[Ja,YM]
section
variable{l:List Nd}{i:Int}
theorem jI(h:Tr (fun y=>lA l y=true) (yA l) (xA l)):yA (QA l i)=lF (yA l) i 0:=by
 unfold QA;by_cases e:yA l i=0
 ·rw[if_pos e];funext y;by_cases a:y=i
  ·subst a;rw[rG,e]
  ·rw[yE _ _ a]
 ·rw[if_neg e,rZ (by rw[YM];exact h.Hs e),sZ]
theorem De(h:Tr (fun y=>lA l y=true) (yA l) (xA l)):xA (QA l i)=lF (xA l) (yA l i) (less i (xA l (yA l i))):=by
 unfold QA;by_cases e:yA l i=0
 ·rw[if_pos e,e,h.k0 h.z];funext y;by_cases a:y=0
  ·subst a;rw[rG,h.k0 h.z];rfl
  ·rw[yE _ _ a]
 ·rw[if_neg e,yT,ZS (h.DH e)]
theorem EI(h:Tr (fun y=>lA l y=true) (yA l) (xA l)):Tr (fun y=>lA (QA l i) y=true) (yA (QA l i)) (xA (QA l i)):=by
 rw[mQ _ _ (eG l i),jI h,De h];exact h.leave i
end
theorem Jm{i b c:Int}{l:List Int}(hb:b=0\/b∈l):c∈ED i b l↔c=i\/c∈l:=by
 unfold ED;by_cases e:b=0
 ·rw[if_pos e];simp[or_comm]
 ·rw[if_neg e];rw[List.mem_flatMap];constructor
  ·rintro⟨d,f,a⟩;split at a
   ·simp at a;rcases a with rfl|rfl
    ·exact .inl rfl
    ·exact .inr f
   ·simp at a;subst a;exact .inr f
  ·rintro(rfl|a)
   ·exact⟨b,hb.resolve_left e,by simp⟩
   ·exact⟨c,a,by split<;>simp⟩
theorem Km{i b:Int}:∀{l:List Int},l.Nodup->i∉l->(ED i b l).Nodup:=by
 intro l q g;unfold ED;by_cases e:b=0
 ·rw[if_pos e,List.nodup_append];exact⟨q,by simp,fun a t b s=>by simp at s;subst s;rintro rfl;exact g t⟩
 ·rw[if_neg e];clear e
  induction l with
  |nil=>simp
  |cons c r ih=>
   obtain⟨k,u⟩:=List.nodup_cons.1 q;simp only[List.mem_cons,not_or] at g;have j:=ih u g.2;rw[List.flatMap_cons];have m:∀z,z∈r.flatMap (fun c=>if c=b then[i,c] else[c])->z=i/\b∈r\/z∈r:=by
    intro z f;obtain⟨d,n,f⟩:=List.mem_flatMap.1 f;split at f
    ·rename_i hdb;simp at f;rcases f with rfl|rfl
     ·exact .inl ⟨rfl,hdb▸n⟩
     ·exact .inr n
    ·simp at f;subst f;exact .inr n
   split
   ·rename_i hcb;subst hcb;have o:c∉r.flatMap (fun d=>if d=c then[i,d] else[d]):=by
     intro f;rcases m c f with⟨e,_⟩|f
     ·exact g.1 e.symm
     ·exact k f
    have p:i∉r.flatMap (fun d=>if d=c then[i,d] else[d]):=by
     intro f;rcases m i f with⟨_,e⟩|f
     ·exact k e
     ·exact g.2 f
    show(i:: c:: _).Nodup;rw[List.nodup_cons,List.nodup_cons];exact⟨by simp only[List.mem_cons,not_or];exact⟨g.1,p⟩,o,j⟩
   ·show(c:: _).Nodup;rw[List.nodup_cons];refine⟨fun f=>?_,j⟩;rcases m c f with⟨e,_⟩|f
    ·exact g.1 e.symm
    ·exact k f
section
variable{l:List Nd}{i p b:Int}
structure lK(l:List Nd)(i p b:Int):Prop where
 hi:lA l i=true
 hp:lA l p=true
 hb:b=0\/lA l b=true/\yA l b=p/\b≠i
 hn:inside l p i=false
 h1:i≠1
 hk:wB (MA l p)=false
theorem JK(h:tC l i p b=0):lK l i p b:=by
 unfold tC at h;split at h
 ·omega
 ·rename_i c1;split at h
  ·omega
  ·rename_i c2;split at h
   ·omega
   ·rename_i c3;split at h
    ·omega
    ·rename_i c4;split at h
     ·omega
     ·rename_i c5;simp only[not_or,not_and,Bool.not_eq_false,Bool.not_eq_true] at c1 c3 c5;refine⟨c1.1,c1.2.1,?_,c5,c2,c3⟩;by_cases e:b=0
      ·exact .inl e
      ·refine .inr ⟨c1.2.2 e,?_⟩;simp only[not_and,not_or] at c4;obtain⟨a,c⟩:=c4 e;exact⟨by simpa using a,c⟩
theorem pU(y:Int):lA (OC l i p b) y=lA l y:=by
 unfold OC;rw[Ja,YM,eG]
theorem U7:WA (OC l i p b)=WA l:=by
 unfold OC;rw[Ka,OQ,hH]
theorem nQ(h:Tr (fun y=>lA l y=true) (yA l) (xA l))(hi:lA l i=true):yA (OC l i p b)=lF (yA (QA l i)) i p:=by
 unfold OC;rw[rZ (by rw[YM,eG];exact hi),sZ]
theorem nj(hp:lA l p=true):xA (OC l i p b)=lF (xA (QA l i)) p (ED i b (xA (QA l i) p)):=by
 unfold OC;rw[yT,ZS (by rw[eG];exact hp)]
theorem bT(h:Tr (fun y=>lA l y=true) (yA l) (xA l))(hk:lK l i p b):b=0\/b∈xA (QA l i) p:=by
 rcases hk.hb with e|⟨h1,h2,h3⟩
 ·exact .inl e
 ·refine .inr ?_;have:=(EI (i:=i) h).par b;rw[jI h,yE _ _ h3,h2] at this;exact this (h.SF hk.hp)
theorem Yp(h:Tr (fun y=>lA l y=true) (yA l) (xA l))(hk:lK l i p b):Tr (fun y=>lA (OC l i p b) y=true) (yA (OC l i p b)) (xA (OC l i p b)):=by
 have a:=EI (i:=i) h;have hcut:∀j,it (yA (QA l i)) j p≠i:=by
  have d:∀j,it (yA l) j p≠i:=fun j=>h.Xp (L:=WA l) (fun y f=>vG.1 f) hk.hp hk.hi (by
   have:=hk.hn;unfold inside uE at this;simp only[decide_eq_false_iff_not] at this;simpa[WA] using this) j
  intro j;have:it (yA (QA l i)) j p=it (yA l) j p:=by
   induction j with
   |zero=>rfl
   |succ j ih=>rw[UF,UF,ih,jI h,yE _ _ (d j)]
  rw[this];exact d j
 have e:yA (QA l i) i=0:=(by rw[jI h,rG]);rw[mQ l _ (fun y=>pU y),nQ h hk.hi,nj hk.hp];rw[mQ l _ (eG l i)] at a;refine a.Js hk.hi hk.hp e hcut (fun c=>Jm (bT h hk)) (Km (a.IC p) ?_);intro g;have:=(a.lB _ _ g).2.2;rw[e] at this;exact h.SF hk.hp this.symm
end
theorem rJ(s:List Int)(l:List Nd)(y:Int):find (aH s l) y=if y∈s then none else find l y:=by
 unfold aH;rw[Cd l (fun y=>!decide (y∈s))];by_cases e:y∈s<;>simp[e]
theorem fO(s:List Int)(l:List Nd)(y:Int):lA (aH s l) y=true↔lA l y=true/\y∉s:=by
 unfold lA;rw[rJ];by_cases e:y∈s<;>simp[e]
theorem Lm{l:List Nd}{i:Int}(h:Tr (fun y=>lA l y=true) (yA l) (xA l))(hi:lA l i=true):Tr (fun y=>lA (qE l i) y=true) (yA (qE l i)) (xA (qE l i)):=by
 have b:=EI (i:=i) h;have j:yA (QA l i) i=0:=(by rw[jI h,rG]);have g:Hb (xA (QA l i)) ((QA l i).length+1) i:=by
  have:=b.MQ (L:=WA (QA l i)) (fun y a=>vG.1 a) (y:=i) (by rw[eG];exact hi);simpa[WA] using this
 have e:(fun y=>lA (qE l i) y=true)=fun y=>lA (QA l i) y=true/\¬y∈below (QA l i) i:=by
  funext y;unfold qE;exact propext (fO _ _ _)
 rw[e];refine b.go (i:=i) (fun y=>y∈below (QA l i) i) j (fun x c hx d=>Q7 _ _ _ _ g hx d) (fun c d f=>b.oU _ _ _ g d f) ?_ ?_ ?_ ?_
 all_goals intro y a
 ·unfold qE yA;rw[rJ,if_pos a]
 ·unfold qE yA;rw[rJ,if_neg a]
 ·unfold qE xA;rw[rJ,if_pos a]
 ·unfold qE xA;rw[rJ,if_neg a]
theorem NN{l:List Nd}{i:Int}{f:Nd->Nd}(h:∀x∈l,x.tag.toList=[]->x.kids=[])(ht:∀x,(f x).tag=x.tag)(hf:∀x∈l,x.id=i->x.tag.toList=[]->x.kids=[]->(f x).kids=[]):
 ∀x∈iB l i f,x.tag.toList=[]->x.kids=[]:=by
 intro x hx a;obtain⟨z,b,rfl⟩:=gK.1 hx;by_cases e:z.id=i
 ·rw[if_pos e] at a|-;rw[ht] at a;exact hf z b e a (h z b a)
 ·rw[if_neg e] at a|-;exact h z b a
theorem gO{l:List Nd}{i:Int}{f:Nd->Nd}(h:∀x∈l,x.attrs.length<=8)(hf:∀x,x.attrs.length<=8->(f x).attrs.length<=8):∀x∈iB l i f,x.attrs.length<=8:=by
 intro x hx;obtain⟨z,a,rfl⟩:=gK.1 hx;split
 ·exact hf z (h z a)
 ·exact h z a
theorem iO{l:List Nd}{i:Int}{f:Nd->Nd}(h:∀x∈l,qK x)(ht:∀x,(f x).tag=x.tag)(hk:∀x,(f x).key=x.key):∀x∈iB l i f,qK x:=by
 intro x hx;obtain⟨z,a,rfl⟩:=gK.1 hx;split
 ·unfold qK;rw[ht,hk];exact h z a
 ·exact h z a
theorem ON{l:List Nd}{i:Int}{f:Nd->Nd}(h:∀x∈l,P3.bC x.attrs=true)(hf:∀x,P3.bC x.attrs=true->P3.bC (f x).attrs=true):∀x∈iB l i f,P3.bC x.attrs=true:=by
 intro x hx;obtain⟨z,a,rfl⟩:=gK.1 hx;split
 ·exact hf z (h z a)
 ·exact h z a
theorem tZ:P3.bC []=true:=P3.oJ.2 ⟨by simp,fun a h=>absurd h DA,List.Pairwise.nil⟩
theorem qU{l m:List Nd}{n:Int}(h:∀x∈l,1<=x.id/\x.id<=n)(e:WA m=WA l):∀x∈m,1<=x.id/\x.id<=n:=by
 intro x hx;have:x.id∈WA m:=List.mem_map.2 ⟨x,hx,rfl⟩;rw[e] at this;obtain⟨z,a,b⟩:=List.mem_map.1 this;rw[<-b];exact h z a
theorem KI{l m:List Nd}(e:WA m=WA l):m.length=l.length:=by
 have:=congrArg List.length e;simpa[WA] using this
theorem FW{l m:List Nd}(e:WA m=WA l)(y:Int):lA m y=lA l y:=by
 rw[Bool.eq_iff_iff,vG,vG,e]
section
variable{d:D}
theorem WF.xG(h:WF d):d.l.length<=200:=Nat.le_trans h.len h.room
theorem WF.vM(h:WF d){x:Nd}(hx:x∈d.l):x.kids.length<=200:=by
 have a:=yJ (h.VC.find hx);have b:=h.tr.IC x.id;rw[a] at b;have:=kJ x.kids (WA d.l) b (fun c e=>vG.1 (h.tr.lB x.id c (by rw[a];exact e)).2.1);have:=h.xG;simp only[WA,List.length_map] at *;omega
theorem WF.Mm(h:WF d){x:Nd}(hx:x∈d.l){c:Int}(hc:c∈x.kids):lA d.l c=true/\yA d.l c=x.id:=
 (h.tr.lB x.id c (by rw[yJ (h.VC.find hx)];exact hc)).2
theorem WF.pos(h:WF d){y:Int}(hy:lA d.l y=true):1<=y/\y<=d.n:=by
 obtain⟨x,hx,rfl⟩:=YK.1 hy;exact h.vK x hx
theorem WF.Ac(h:WF d):lA d.l 0=false:=by
 rw[<-Bool.not_eq_true];intro e;have:=(h.pos e).1;omega
theorem WF.next(h:WF d):lA d.l (d.n+1)=false:=by
 rw[<-Bool.not_eq_true];intro e;have:=(h.pos e).2;omega
theorem La(h:WF d)(i:Int)(f:Nd->Nd)(h1:∀x,(f x).id=x.id)(h2:∀x,(f x).par=x.par)(h3:∀x,(f x).kids=x.kids)(h4:∀x,(f x).tag=x.tag)(h5:∀x,x.attrs.length<=8->(f x).attrs.length<=8)(h6:∀x,(f x).key=x.key)(h7:∀x,P3.bC x.attrs=true->P3.bC (f x).attrs=true):WF {d with l:=iB d.l i f}:=by
 have e:=aO d.l i f h1;have b:yA (iB d.l i f)=yA d.l:=by
  funext y;rw[cO h1 (g:=fun x=>x.par) h2];unfold yA;cases find d.l y<;>simp
 have c:xA (iB d.l i f)=xA d.l:=by
  funext y;rw[VP h1 (g:=fun x=>x.kids) h3];unfold xA;cases find d.l y<;>simp
 have a:=FW e;refine⟨DI h.VC e,qU h.vK e,h.n0,by rw[KI e];exact h.len,h.room,?_,?_,?_,NN h.elem h4 (fun x _ _ _ hx=>(h3 x).trans hx),gO h.mB h5,?_,iO h.fN h4 h6,ON h.jN h7⟩
 ·show lA (iB d.l i f) 1=true;rw[a];exact h.root
 ·show yA (iB d.l i f) 1=0;rw[b];exact h.tL
 ·show Tr (fun y=>lA (iB d.l i f) y=true) (yA (iB d.l i f)) (xA (iB d.l i f));rw[mQ _ _ a,b,c];exact h.tr
 ·show d.foc=0\/lA (iB d.l i f) d.foc=true;rw[a];exact h.foc
theorem IW{l:List Nd}(i:Int)(h:∀x∈l,x.tag.toList=[]->x.kids=[]):∀x∈QA l i,x.tag.toList=[]->x.kids=[]:=by
 unfold QA;split
 ·exact h
 ·exact NN (NN h (fun _=>rfl) (fun x _ _ _ hx=>by show less i x.kids=[];rw[hx];rfl)) (fun _=>rfl) (fun x _ _ _ hx=>hx)
theorem UX{l:List Nd}(i:Int)(h:∀x∈l,x.attrs.length<=8):∀x∈QA l i,x.attrs.length<=8:=by
 unfold QA;split
 ·exact h
 ·exact gO (gO h (fun _ h=>h)) (fun _ h=>h)
theorem VX{l:List Nd}(i:Int)(h:∀x∈l,qK x):∀x∈QA l i,qK x:=by
 unfold QA;split
 ·exact h
 ·exact iO (iO h (fun _=>rfl) (fun _=>rfl)) (fun _=>rfl) (fun _=>rfl)
theorem JW{l:List Nd}(i:Int)(h:∀x∈l,P3.bC x.attrs=true):∀x∈QA l i,P3.bC x.attrs=true:=by
 unfold QA;split
 ·exact h
 ·exact ON (ON h (fun _ h=>h)) (fun _ h=>h)
theorem wg{l:List Nd}{x:Nd}(i:Int)(hx:x∈QA l i):∃z∈l,z.id=x.id/\z.tag=x.tag:=by
 unfold QA at hx;split at hx
 ·exact⟨x,hx,rfl,rfl⟩
 ·obtain⟨z,a,rfl⟩:=gK.1 hx;obtain⟨u,b,rfl⟩:=gK.1 a;refine⟨u,b,?_,?_⟩
  ·split<;>split<;>rfl
  ·split<;>split<;>rfl
theorem Zp(h:WF d){i p b:Int}(hk:lK d.l i p b):WF {d with l:=OC d.l i p b}:=by
 have e:WA (OC d.l i p b)=WA d.l:=U7;have k:=FW e;refine⟨DI h.VC e,qU h.vK e,h.n0,by rw[KI e];exact h.len,h.room,?_,?_,Yp h.tr hk,?_,?_,?_,?_,?_⟩
 ·show lA (OC d.l i p b) 1=true;rw[k];exact h.root
 ·show yA (OC d.l i p b) 1=0;rw[nQ h.tr hk.hi,yE _ _ (Ne.symm hk.h1),jI h.tr,yE _ _ (Ne.symm hk.h1)];exact h.tL
 ·show∀x∈OC d.l i p b,x.tag.toList=[]->x.kids=[];unfold OC;refine NN (NN (IW i h.elem) (fun _=>rfl) (fun x hx f m n=>?_)) (fun _=>rfl) (fun x _ _ _ hx=>hx);obtain⟨z,o,g,j⟩:=wg i hx;have a:=hk.hk;have c:=h.VC.find o;rw[g,f] at c;unfold wB MA at a;rw[c] at a;simp only[j,m] at a;simp at a
 ·show∀x∈OC d.l i p b,x.attrs.length<=8;unfold OC;exact gO (gO (UX i h.mB) (fun _ h=>h)) (fun _ h=>h)
 ·show d.foc=0\/lA (OC d.l i p b) d.foc=true;rw[k];exact h.foc
 ·show∀x∈OC d.l i p b,qK x;unfold OC;exact iO (iO (VX i h.fN) (fun _=>rfl) (fun _=>rfl)) (fun _=>rfl) (fun _=>rfl)
 ·show∀x∈OC d.l i p b,P3.bC x.attrs=true;unfold OC;exact ON (ON (JW i h.jN) (fun _ h=>h)) (fun _ h=>h)
theorem Ee(h:WF d){i:Int}(hi:lA d.l i=true)(h1:i≠1):1∉below (QA d.l i) i:=by
 intro b;have a:=EI (i:=i) h.tr;have c:Hb (xA (QA d.l i)) ((QA d.l i).length+1) i:=by
  have:=a.MQ (L:=WA (QA d.l i)) (fun y e=>vG.1 e) (y:=i) (by rw[eG];exact hi);simpa[WA] using this
 have:=a.oU _ _ _ c b (Ne.symm h1);rw[jI h.tr,yE _ _ (Ne.symm h1),h.tL] at this;have f:=a.eR _ _ _ (by rw[eG];exact hi) this;exact a.z f
theorem Nm(h:WF d){i:Int}(hi:lA d.l i=true)(h1:i≠1):WF {d with l:=qE d.l i,foc:=if d.foc∈below (QA d.l i) i then 0 else d.foc}:=by
 have e:WA (QA d.l i)=WA d.l:=hH d.l i;have a:(qE d.l i).Sublist (QA d.l i):=List.filter_sublist;have c:=Ee h hi h1;refine⟨(DI h.VC e).sublist a,fun x hx=>qU h.vK e x (a.subset hx),h.n0,?_,h.room,?_,?_,Lm h.tr hi,fun x hx=>IW i h.elem x (a.subset hx),fun x hx=>UX i h.mB x (a.subset hx),?_,fun x hx=>VX i h.fN x (a.subset hx),fun x hx=>JW i h.jN x (a.subset hx)⟩
 ·have:=a.length_le;rw[KI e] at this;exact Nat.le_trans this h.len
 ·show lA (aH _ _) 1=true;rw[fO,eG];exact⟨h.root,c⟩
 ·show yA (aH _ _) 1=0;unfold yA;rw[rJ,if_neg c];show yA (QA d.l i) 1=0;rw[jI h.tr,yE _ _ (Ne.symm h1)];exact h.tL
 ·by_cases b:d.foc∈below (QA d.l i) i
  ·exact .inl (if_pos b)
  ·rw[if_neg b];rcases h.foc with h0|h0
   ·exact .inl h0
   ·refine .inr ((fO _ _ _).2 ⟨?_,b⟩);rw[eG];exact h0
theorem Om{tag txt key:wA}(h:wC tag txt key≠false)(i:Int):qK (GC i tag txt key):=by
 have g:∀b:wA,b.data.toList.length=b.size:=fun b=>rfl
 have n:∀{l:KA},P1.YB l=true->l.length<=60:=fun {l} h=>by
  unfold P1.YB at h;rw[Bool.and_eq_true] at h;simpa using h.1
 have o:∀{l:KA},P1.NC l=true->l.length<=60:=fun {l} h=>by
  cases l with
  |nil=>simp
  |cons c r=>
   have:=(P1.Ae h).1;simp only[List.length_cons];omega
 have a:∀{b:wA},b.toList=[]->b.size=0:=fun {b} e=>by
  rw[ByteArray.toList_eq] at e;rw[<-g,e];rfl
 unfold wC at h;show(tag.toList=[]->key.toList=[])/\tag.size<=60/\key.size<=60;by_cases d:tag.toList=[]
 ·rw[if_pos d] at h;have j:key.toList=[]:=by
   cases hh:decide (key.toList=[]) with
   |false=>rw[hh] at h;simp at h
   |true=>simpa using hh
  exact⟨fun _=>j,by rw[a d];omega,by rw[a j];omega⟩
 ·rw[if_neg d] at h;have f:((P1.NC tag.data.toList&&P1.YB key.data.toList)&&decide (txt.toList=[]))=true:=by
   cases hh:((P1.NC tag.data.toList&&P1.YB key.data.toList)&&decide (txt.toList=[])) with
   |false=>exact absurd hh h
   |true=>rfl
  rw[Bool.and_eq_true,Bool.and_eq_true] at f;have k:=o f.1.1;have m:=n f.1.2;rw[g] at k m;exact⟨fun e=>absurd e d,k,m⟩
theorem fq(h:WF d)(tag txt key:wA)(hR:d.l.length<d.R)(hm:wC tag txt key≠false):WF {d with l:=d.l++[GC (d.n+1) tag txt key],n:=d.n+1}:=by
 have f:=h.next;have i:∀y,find (d.l++[GC (d.n+1) tag txt key]) y=if y=d.n+1 then some (GC (d.n+1) tag txt key) else find d.l y:=fun y=>MN (l:=d.l) (x:=GC (d.n+1) tag txt key) f y
 have o:(GC (d.n+1) tag txt key).id=d.n+1:=rfl;have g:∀y,lA (d.l++[GC (d.n+1) tag txt key]) y=true↔y=d.n+1\/lA d.l y=true:=by
  intro y;unfold lA;rw[i];by_cases e:y=d.n+1
  ·rw[if_pos e];simp[e]
  ·rw[if_neg e];simp[e]
 have k:yA (d.l++[GC (d.n+1) tag txt key])=yA d.l:=by
  funext y;unfold yA;rw[i];by_cases e:y=d.n+1
  ·have e0:find d.l y=none:=(by rw[e];simpa[lA] using f);rw[if_pos e,e0];rfl
  ·rw[if_neg e]
 have p:xA (d.l++[GC (d.n+1) tag txt key])=xA d.l:=by
  funext y;unfold xA;rw[i];by_cases e:y=d.n+1
  ·have e0:find d.l y=none:=(by rw[e];simpa[lA] using f);rw[if_pos e,e0];rfl
  ·rw[if_neg e]
 have w:=h.n0;refine⟨?_,fun x hx=>?_,by show 1<=d.n+1;omega,?_,h.room,(g 1).2 (.inr h.root),?_,?_,fun x hx q=>?_,fun x hx=>?_,?_,fun x hx=>?_,fun x hx=>?_⟩
 ·refine List.pairwise_append.2 ⟨h.VC,by simp,fun a r b m=>?_⟩;simp only[List.mem_singleton] at m;subst m;have:=h.vK a r;show a.id<d.n+1;omega
 ·simp only[List.mem_append,List.mem_singleton] at hx;rcases hx with hx|rfl
  ·have:=h.vK x hx;show 1<=x.id/\x.id<=d.n+1;omega
  ·show 1<=d.n+1/\d.n+1<=d.n+1;omega
 ·show(d.l++[_]).length<=d.R;simp;omega
 ·show yA (d.l++[_]) 1=0;rw[k];exact h.tL
 ·show Tr (fun y=>lA (d.l++[_]) y=true) (yA (d.l++[_])) (xA (d.l++[_]));rw[k,p];have t:=h.tr;refine⟨fun s=>?_,fun y u=>t.p0 y (fun j=>u ((g y).2 (.inr j))),fun x c v=>?_,t.par,t.IC,t.SL⟩
  ·rcases(g 0).1 s with e|e
   ·omega
   ·exact t.z e
  ·obtain⟨a,b,e⟩:=t.lB x c v;exact⟨(g x).2 (.inr a),(g c).2 (.inr b),e⟩
 ·simp only[List.mem_append,List.mem_singleton] at hx;rcases hx with hx|rfl
  ·exact h.elem x hx q
  ·rfl
 ·simp only[List.mem_append,List.mem_singleton] at hx;rcases hx with hx|rfl
  ·exact h.mB x hx
  ·exact Nat.zero_le _
 ·rcases h.foc with e|e
  ·exact .inl e
  ·exact .inr ((g _).2 (.inr e))
 ·simp only[List.mem_append,List.mem_singleton] at hx;rcases hx with hx|rfl
  ·exact h.fN x hx
  ·exact Om hm _
 ·simp only[List.mem_append,List.mem_singleton] at hx;rcases hx with hx|rfl
  ·exact h.jN x hx
  ·exact tZ
theorem oj{l:List P3.At}(h:P3.bC l≠false):l.length<=8:=by
 rcases Nat.lt_or_ge 8 l.length with hl|hl
 ·exact absurd (P3.JX hl) h
 ·exact hl
theorem bK(h:WF d)(r:Rc):WF (VA d r).2:=by
 unfold VA;split
 ·unfold jD;split
  ·exact h
  ·split
   ·exact h
   ·rename_i c1 c2 c3;simp only[ne_eq,not_or,Classical.not_not] at c2;have:=fq h r.tag r.txt r.key cA c2.2;rw[<-c2.1] at this;show WF {d with l:=d.l++[GC r.id r.tag r.txt r.key],n:=d.n+1};rw[<-c2.1];exact this
 ·split
  ·unfold oD;split
   ·rename_i hp;exact Zp h (JK hp)
   ·exact h
  ·split
   ·unfold OD;split
    ·exact h
    ·split
     ·exact h
     ·rename_i c1 c2;exact Nm h (by simpa using c1) c2
   ·split
    ·unfold fD;split
     ·exact h
     ·split
      ·exact h
      ·split
       ·exact h
       ·rename_i c3;exact La h _ _ (fun _=>rfl) (fun _=>rfl) (fun _=>rfl) (fun _=>rfl) (fun _ _=>oj c3) (fun _=>rfl) (fun _ _=>by show P3.bC r.attrs=true;simpa using c3)
    ·split
     ·unfold GD;split
      ·exact h
      ·split
       ·exact h
       ·split
        ·exact h
        ·exact La h _ _ (fun _=>rfl) (fun _=>rfl) (fun _=>rfl) (fun _=>rfl) (fun _ hx=>hx) (fun _=>rfl) (fun _ hx=>hx)
     ·exact h
theorem pj(h:WF d)(i:Int):WF (vE d i).2:=by
 unfold vE;split
 ·exact h
 ·rename_i c;refine⟨h.VC,h.vK,h.n0,h.len,h.room,h.root,h.tL,h.tr,h.elem,h.mB,?_,h.fN,h.jN⟩;show i=0\/lA d.l i=true;by_cases e:i=0
  ·exact .inl e
  ·exact .inr (by simpa[e] using c)
def ME(R:Nat):D:=⟨[GC 1 ⟨#[114,111,111,116]⟩ ⟨#[]⟩ ⟨#[]⟩],1,R,0⟩
theorem Pm{R:Nat}(h1:1<=R)(h2:R<=200):WF (ME R):=by
 have a:∀y,find (ME R).l y=if y=1 then some (GC 1 ⟨#[114,111,111,116]⟩ ⟨#[]⟩ ⟨#[]⟩) else none:=by
  intro y;show List.find? _ [_]=_;rw[List.find?_cons];by_cases e:y=1
  ·subst e;rfl
  ·rw[if_neg e];have:decide ((GC 1 ⟨#[114,111,111,116]⟩ ⟨#[]⟩ ⟨#[]⟩).id=y)=false:=by
    rw[decide_eq_false_iff_not];exact fun g=>e g.symm
   rw[this];rfl
 have b:∀y,yA (ME R).l y=0:=by
  intro y;unfold yA;rw[a];split<;>rename_i e
  ·split at e
   ·injection e with e;subst e;rfl
   ·cases e
  ·rfl
 have d:∀y,xA (ME R).l y=[]:=by
  intro y;unfold xA;rw[a];split<;>rename_i e
  ·split at e
   ·injection e with e;subst e;rfl
   ·cases e
  ·rfl
 refine⟨List.pairwise_singleton _ _,fun x hx=>?_,by show(1:Int)<=1;omega,h1,h2,?_,b 1,?_,fun x hx _=>?_,fun x hx=>?_,.inl rfl,fun x hx=>?_,fun x hx=>?_⟩
 ·simp only[ME,List.mem_singleton] at hx;subst hx;show(1:Int)<=1/\(1:Int)<=1;omega
 ·unfold lA;rw[a];rfl
 ·refine⟨fun h=>?_,fun y _=>b y,fun x c f=>?_,fun y i=>absurd (b y) i,fun x=>?_,fun y=>⟨1,b y⟩⟩
  ·unfold lA at h;rw[a] at h;simp at h
  ·rw[d] at f;simp at f
  ·rw[d];exact List.nodup_nil
 ·simp only[ME,List.mem_singleton] at hx;subst hx;rfl
 ·simp only[ME,List.mem_singleton] at hx;subst hx;exact Nat.zero_le _
 ·simp only[ME,List.mem_singleton] at hx;subst hx;exact⟨fun _=>ByteArray.toList_eq _,by show(4:Nat)<=60;omega,by show(0:Nat)<=60;omega⟩
 ·simp only[ME,List.mem_singleton] at hx;subst hx;exact tZ
end
end P5
namespace P4
open Go.RowKit Kd
variable{B p R:Nat}{n:Int}{v:Value}{l:List (Sl Nat)}
end P4
namespace P5
open Go.RowKit Kd P4
structure nB(w:World)(s:Sv)(l:List P3.At):Prop where
 len:l.length=s.n
 cap:s.n<=s.c
 cm:s.c<=maxLen
 nil:s.A=none->s.c=0
 holds:kA.pA w w.heap.size s.A l
 ty:∀b o,s.A=some (dA b o)->l≠[]->∃cur fr,w.heap[b]? = some (.cells cur 119 fr)
def qD(w:World)(S:Nat->Prop):Prop:=∀k cur fr,S k->w.heap[k]?≠some (.cells cur 119 fr)
theorem qD.none(w:World):qD w (fun _=>False):=fun _ _ _ h=>h.elim
section
variable{w w':World}{s:Sv}{l:List P3.At}
theorem nB.but{S:Nat->Prop}(h:nB w s l)(hb:gA S w w')(hS:qD w S):nB w' s l:=by
 have key:∀b o,s.A=some ⟨b,o,Option.none⟩->l≠[]->w'.heap[b]? = w.heap[b]?:=by
  intro b o d e;obtain⟨c,g,f⟩:=h.ty b o d e;exact hb.block b (FA f) (fun i=>hS b c g i f)
 refine⟨h.len,h.cap,h.cm,h.nil,?_,fun b o d e=>?_⟩
 ·cases l with
  |nil=>exact Kind.pA.nil _ _ _
  |cons a r=>exact(h.holds.sB fun b ⟨o,d⟩ _=>key b o d DA).more hb.size
 ·obtain⟨c,g,f⟩:=h.ty b o d e;exact⟨c,g,(key b o d e).trans f⟩
theorem nB.below(h:nB w s l)(hb:eA w w'):nB w' s l:=h.but (gA.tB hb (fun _=>False)) (qD.none w)
theorem nB.yI(w:World):nB w ⟨Option.none,0,0⟩ []:=⟨rfl,Zl,by simp[maxLen],fun _=>rfl,Kind.pA.nil _ _ _,fun _ _ h=>by cases h⟩
theorem nB.own{B:Nat}{v:Value}(h:kA.Own w B v l):∃s:Sv,v=s.val/\nB w s l:=by
 obtain⟨A,n,c,rfl,d,e,f,i,j⟩:=h.slice;refine⟨⟨A,n,c⟩,rfl,d,e,f,i,j,fun b o a k=>?_⟩;simp only at a;subst a;rcases h.form with⟨hv,rfl⟩|⟨g,c',cur,hv,_,_,_,hh,_⟩
 ·exact absurd rfl k
 ·injection hv with e1;injection e1 with e1;injection e1 with e1;subst e1;exact⟨cur,_,hh⟩
theorem nB.drewN(h:nB w s l)(n:Nat):nB (w.drewN n) s l:=⟨h.len,h.cap,h.cm,h.nil,h.holds,h.ty⟩
theorem UE{B:Nat}{A:jA}(h:kA.pA w B A l):P3.pA w B A l:=by
 intro k c;obtain⟨b,o,d,e,a⟩:=h.at c;exact⟨b,o,d,e,a 0 _ rfl,a 1 _ rfl,a 2 _ rfl⟩
end
structure Rw where
 b:Nat
 va:Sv
 vk:Sv
 nd:Nd
def Nd.cells(nd:Nd)(va vk:Sv):Array Value:=#[aA nd.id,aA nd.par,bA nd.tag,bA nd.txt,bA nd.key,va.val,vk.val,aA nd.note]
def eC(r:Rw):Sl Nat:=⟨r.nd.id,r.b⟩
structure Dx where
 a:Nat
 v:Value
 vi:Value
 R:Nat
 n:Int
 foc:Int
 rs:List Rw
def Dx.l(x:Dx):List Nd:=x.rs.map (·.nd)
def Dx.d(x:Dx):D:=⟨x.l,x.n,x.R,x.foc⟩
def UC(p:Nat)(x:Dx)(k:Nat):Prop:=k=p\/k=x.a\/x.v.ownBlock=some k\/x.vi.ownBlock=some k\/∃r∈x.rs,k=r.b\/r.vk.val.ownBlock=some k
structure cF(w:World)(B:Nat)(r:Rw):Prop where
 mA:w.heap[r.b]? = some (.cells (r.nd.cells r.va r.vk) 53 (0,0))
 base:B<=r.b
 mB:nB w r.va r.nd.attrs
 kids:kI.Own w B r.vk.val r.nd.kids
structure Dc(w:World)(B p:Nat)(x:Dx):Prop where
 mA:w.heap[p]? = some (.cells #[iA x.a,x.vi,aA x.foc] 69 (0,0))
 base:B<=p
 ar:SC w B x.a x.R x.n x.v (x.rs.map eC)
 ids:kI.Own w B x.vi (WA x.l)
 nodes:∀r∈x.rs,cF w B r
 RJ:∀r∈x.rs,gE x.vi r.vk.val
 pw:x.rs.Pairwise fun r s=>r.b≠s.b/\gE r.vk.val s.vk.val
theorem cF.lt{w:World}{B:Nat}{r:Rw}(h:cF w B r):r.b<w.heap.size:=FA h.mA
theorem cF.cell{w:World}{B:Nat}{r:Rw}(h:cF w B r)(i:Nat):w.cell? ⟨r.b,i,none⟩=(r.nd.cells r.va r.vk)[i]?:=cell_of_row w r.b i _ _ (0,0) h.mA
theorem cF.frozen{w:World}{B:Nat}{r:Rw}(h:cF w B r)(i:Nat):w.frozen? ⟨r.b,i,none⟩=false:=by
 have:=h.mA;simp[World.frozen?,this]
theorem cF.sB{w w':World}{B:Nat}{r:Rw}(h:cF w B r)(hb:w'.heap[r.b]? = w.heap[r.b]?)(hk:∀g,r.vk.val.ownBlock=some g->w'.heap[g]? = w.heap[g]?)(ha:nB w' r.va r.nd.attrs):cF w' B r:=
 ⟨hb.trans h.mA,h.base,ha,h.kids.sB hk⟩
section
variable{w w':World}{B p:Nat}{x:Dx}
theorem Dc.lt(h:Dc w B p x){k:Nat}(hk:UC p x k):k<w.heap.size:=by
 rcases hk with rfl|rfl|hk|hk|⟨r,hr,rfl|hk⟩
 ·exact FA h.mA
 ·exact h.ar.lt
 ·exact(h.ar.own.lt hk).2
 ·exact(h.ids.lt hk).2
 ·exact(h.nodes r hr).lt
 ·exact((h.nodes r hr).kids.lt hk).2
theorem Dc.ge(h:Dc w B p x){k:Nat}(hk:UC p x k):B<=k:=by
 rcases hk with rfl|rfl|hk|hk|⟨r,hr,rfl|hk⟩
 ·exact h.base
 ·exact h.ar.base
 ·exact(h.ar.own.lt hk).1
 ·exact(h.ids.lt hk).1
 ·exact(h.nodes r hr).base
 ·exact((h.nodes r hr).kids.lt hk).1
theorem Dc.ty(h:Dc w B p x){k:Nat}(hk:UC p x k):∃cur t,w.heap[k]? = some (.cells cur t (0,0))/\(t=69\/t=141\/t=150\/t=3\/t=53):=by
 rcases hk with rfl|rfl|hk|hk|⟨r,hr,rfl|hk⟩
 ·exact⟨_,_,h.mA,.inl rfl⟩
 ·exact⟨_,_,h.ar.mA,.inr (.inl rfl)⟩
 ·obtain⟨c,a⟩:=h.ar.own.ty hk;exact⟨_,_,a,.inr (.inr (.inl rfl))⟩
 ·obtain⟨c,a⟩:=h.ids.ty hk;exact⟨_,_,a,.inr (.inr (.inr (.inl rfl)))⟩
 ·exact⟨_,_,(h.nodes r hr).mA,.inr (.inr (.inr (.inr rfl)))⟩
 ·obtain⟨c,a⟩:=(h.nodes r hr).kids.ty hk;exact⟨_,_,a,.inr (.inr (.inr (.inl rfl)))⟩
theorem Dc.other(h:Dc w B p x){k:Nat}{cur:Array Value}{t:TypeId}{fr:Nat×Nat}(hk:w.heap[k]? = some (.cells cur t fr))(h1:t≠69)(h2:t≠141)(h3:t≠150)(h4:t≠3)(h5:t≠53):¬UC p x k:=by
 intro b;obtain⟨c,f,a,d⟩:=h.ty b;rw[hk] at a;injection a with a;injection a with _ e;subst e;rcases d with e|e|e|e|e<;>contradiction
theorem Dc.eD(h:Dc w B p x):qD w (UC p x):=fun k a d b c=>h.other c nA nA nA nA nA b
theorem Dc.but{S:Nat->Prop}(h:Dc w B p x)(hb:gA S w w')(hS:∀k,UC p x k->¬S k)(hA:qD w S):Dc w' B p x:=by
 have a:∀k,UC p x k->w'.heap[k]? = w.heap[k]?:=fun k d=>hb.block k (h.lt d) (hS k d)
 refine⟨(a p (.inl rfl)).trans h.mA,h.base,h.ar.sB (a _ (.inr (.inl rfl))) (fun g b=>a g (.inr (.inr (.inl b)))),h.ids.sB (fun g b=>a g (.inr (.inr (.inr (.inl b))))),fun r c=>?_,h.RJ,h.pw⟩;exact(h.nodes r c).sB (a _ (.inr (.inr (.inr (.inr ⟨r,c,.inl rfl⟩))))) (fun g b=>a g (.inr (.inr (.inr (.inr ⟨r,c,.inr b⟩))))) ((h.nodes r c).mB.but hb hA)
theorem Dc.below(h:Dc w B p x)(hb:eA w w'):Dc w' B p x:=h.but (gA.tB hb (fun _=>False)) (fun _ _ h=>h) (qD.none w)
theorem Dc.drewN(h:Dc w B p x)(n:Nat):Dc (w.drewN n) B p x:=
 ⟨h.mA,h.base,h.ar.drewN n,h.ids,fun r a=>⟨(h.nodes r a).mA,(h.nodes r a).base,(h.nodes r a).mB.drewN n,(h.nodes r a).kids⟩,h.RJ,h.pw⟩
theorem Dc.alloc(h:Dc w B p x)(o:Obj):Dc (w.alloc o) B p x:=h.below (Ze.alloc Zl o)
theorem Dc.frozen(h:Dc w B p x)(i:Nat):w.frozen? (dA p i)=false:=by
 have:=h.mA;simp[World.frozen?,this]
theorem Dc.c0(h:Dc w B p x):w.cell? (dA p 0)=some (iA x.a):=cell_of_row w p 0 _ _ (0,0) h.mA
theorem Dc.c1(h:Dc w B p x):w.cell? (dA p 1)=some x.vi:=cell_of_row w p 1 _ _ (0,0) h.mA
theorem Dc.c2(h:Dc w B p x):w.cell? (dA p 2)=some (aA x.foc):=cell_of_row w p 2 _ _ (0,0) h.mA
theorem Dc.VC(h:Dc w B p x):EB x.l:=by
 have:=h.ar.VC.1;rw[List.pairwise_map] at this;unfold EB Dx.l;rw[List.pairwise_map];exact this
theorem EJ(x:Dx):x.l.length=x.rs.length:=by simp[Dx.l]
theorem Ks(x:Dx){k:Nat}(hk:k<x.rs.length):x.l[k]'(by rw[EJ];exact hk)=x.rs[k].nd:=by simp[Dx.l]
theorem Dc.UN(h:Dc w B p x)(y:Int):nD (x.rs.map eC) y=lA x.l y:=by
 rw[Bool.eq_iff_iff,RP h.ar.VC,YK];constructor
 ·rintro⟨s,a,e⟩;obtain⟨r,b,rfl⟩:=List.mem_map.1 a;exact⟨r.nd,List.mem_map.2 ⟨r,b,rfl⟩,e⟩
 ·rintro⟨s,a,e⟩;obtain⟨r,b,rfl⟩:=List.mem_map.1 a;exact⟨eC r,List.mem_map.2 ⟨r,b,rfl⟩,e⟩
theorem Dc.place(h:Dc w B p x){y:Int}(hy:lA x.l y=true):∃k,∃hk:k<x.rs.length,x.rs[k].nd.id=y/\find x.l y=some x.rs[k].nd:=by
 obtain⟨z,a,rfl⟩:=YK.1 hy;obtain⟨r,b,rfl⟩:=List.mem_map.1 a;obtain⟨k,hk,rfl⟩:=List.mem_iff_getElem.1 b;exact⟨k,hk,rfl,h.VC.find a⟩
theorem Dc.nd(h:Dc w B p x){k:Nat}(hk:k<x.rs.length):cF w B x.rs[k]:=h.nodes _ (List.getElem_mem hk)
theorem Dc.tV(h:Dc w B p x){i j:Nat}(hi:i<x.rs.length)(hj:j<x.rs.length)(hij:i≠j):x.rs[i].b≠x.rs[j].b/\gE x.rs[i].vk.val x.rs[j].vk.val:=by
 have:=List.pairwise_iff_getElem.1 h.pw;rcases Nat.lt_or_gt_of_ne hij with hl|hl
 ·exact this i j hi hj hl
 ·obtain⟨a,b⟩:=this j i hj hi hl;exact⟨Ne.symm a,b.symm⟩
structure oC(w:World)(B p:Nat)(x x':Dx)(w':World):Prop where
 dc:Dc w' B p x'
 but:gA (UC p x) w w'
 ft:∀k,UC p x' k->UC p x k\/w.heap.size<=k
theorem oC.trans{w2:World}{x1 x2:Dx}(h:oC w B p x x1 w')(k:oC w' B p x1 x2 w2):oC w B p x x2 w2:=by
 have c:=h.but.size;refine⟨k.dc,h.but.trans k.but (fun i a b=>?_),fun i a=>?_⟩
 ·rcases h.ft i b with e|e
  ·exact e
  ·omega
 ·rcases k.ft i a with e|e
  ·exact h.ft i e
  ·exact .inr cA
theorem oC.sC(h:Dc w B p x)(hb:eA w w'):oC w B p x x w':=⟨h.below hb,gA.tB hb _,fun _ h=> .inl h⟩
theorem oC.below{x':Dx}{w2:World}(h:oC w B p x x' w')(hb:eA w' w2):oC w B p x x' w2:=h.trans (oC.sC h.dc hb)
theorem oC.AB{x':Dx}(h:Dc w B p x)(k:oC w B p x x' w'):Below B w w':=k.but.AB (fun _ _ a=>h.ge a) (by have:=h.base;have:=h.lt (.inl rfl:UC p x p);omega)
theorem wM{α:Type}{l:List α}{k:Nat}{r s:α}(h:s∈l.set k r):s=r\/∃j,∃hj:j<l.length,k≠j/\s=l[j]:=by
 obtain⟨j,hj,rfl⟩:=List.mem_iff_getElem.1 h;rw[List.getElem_set];split
 ·exact .inl rfl
 ·rename_i e;exact .inr ⟨j,by simpa using hj,e,rfl⟩
def Dx.put(x:Dx)(k:Nat)(r:Rw):Dx:={x with rs:=x.rs.set k r}
theorem Dc.node(h:Dc w B p x){k:Nat}(hk:k<x.rs.length){r:Rw}(hb:r.b=x.rs[k].b)(hid:r.nd.id=x.rs[k].nd.id)
 (hw:gA (fun g=>g=x.rs[k].b\/x.rs[k].vk.val.ownBlock=some g) w w') (hn:cF w' B r) (hv:∀g,r.vk.val.ownBlock=some g->x.rs[k].vk.val.ownBlock=some g\/w.heap.size<=g):oC w B p x (x.put k r) w':=by
 have P:∀g,(g=x.rs[k].b\/x.rs[k].vk.val.ownBlock=some g)->UC p x g:=fun g a=> .inr (.inr (.inr (.inr ⟨_,List.getElem_mem hk,a⟩)))
 have C:gA (UC p x) w w':=hw.mono fun g _ a=>P g a
 have H:qD w (fun g=>g=x.rs[k].b\/x.rs[k].vk.val.ownBlock=some g):=fun g c f a=>h.eD g c f (P g a)
 have y:=h.nd hk;have v:=y.mA;have I:∀{g:Nat} {c:Array Value} {t:TypeId},w.heap[g]? = some (.cells c t (0,0))->t≠53->t≠3->w'.heap[g]? = w.heap[g]?:=by
  intro g c t a z A;refine hw.block g (FA a) ?_;rintro(rfl|e)
  ·exact RA a v z rfl
  ·obtain⟨d,J⟩:=y.kids.ty e;exact RA a J A rfl
 have n:(x.rs.set k r).map eC=x.rs.map eC:=by
  apply List.ext_getElem
  ·simp
  ·intro j z A;simp only[List.getElem_map,List.getElem_set];split
   ·rename_i e;subst e;simp[eC,hb,hid]
   ·rfl
 have D:WA ((x.rs.set k r).map (·.nd))=WA x.l:=by
  have:=congrArg (List.map (·.id)) n;simpa[WA,Dx.l,eC,List.map_map,Function.comp_def] using this
 have kN:∀{g:Nat} {c:Array Value},w.heap[g]? = some (.cells c 3 (0,0))->x.rs[k].vk.val.ownBlock≠some g->w'.heap[g]? = w.heap[g]?:=by
  intro g c a u;refine hw.block g (FA a) ?_;rintro(rfl|e)
  ·exact RA a v nA rfl
  ·exact u e
 refine⟨⟨(I h.mA nA nA).trans h.mA,h.base,?_,?_,?_,?_,?_⟩,C,?_⟩
 ·show SC w' B x.a x.R x.n x.v ((x.rs.set k r).map eC);rw[n];refine h.ar.sB (I h.ar.mA nA nA) (fun g a=>?_);obtain⟨c,E⟩:=h.ar.own.ty a;exact I E nA nA
 ·show kI.Own w' B x.vi (WA ((x.rs.set k r).map (·.nd)));rw[D];refine h.ids.sB (fun g a=>?_);obtain⟨c,E⟩:=h.ids.ty a;exact kN E (h.RJ _ (List.getElem_mem hk) g a)
 ·intro s F;rcases wM (show s∈x.rs.set k r from F) with rfl|⟨j,l,u,rfl⟩
  ·exact hn
  ·obtain⟨K,L⟩:=h.tV hk l u;have q:=h.nd l;refine q.sB (hw.block _ q.lt ?_) (fun g a=>?_) (q.mB.but hw H)
   ·rintro(e|e)
    ·exact K e.symm
    ·obtain⟨d,J⟩:=y.kids.ty e;exact RA q.mA J nA rfl
   ·obtain⟨c,E⟩:=q.kids.ty a;exact kN E (fun e=>L g e a)
 ·intro s F;show gE x.vi s.vk.val;rcases wM (show s∈x.rs.set k r from F) with rfl|⟨j,l,u,rfl⟩
  ·intro g a e;rcases hv g e with o|o
   ·exact h.RJ _ (List.getElem_mem hk) g a o
   ·have:=(h.ids.lt a).2;omega
  ·exact h.RJ _ (List.getElem_mem l)
 ·show(x.rs.set k r).Pairwise _;refine List.pairwise_iff_getElem.2 fun i j S T U=>?_
  have G:i<x.rs.length:=(by simpa using S);have l:j<x.rs.length:=(by simpa using T);have Q:∀m (M:m<x.rs.length),m≠k->r.b≠x.rs[m].b/\gE r.vk.val x.rs[m].vk.val:=by
   intro m M N;obtain⟨z,A⟩:=h.tV hk M (Ne.symm N);refine⟨by rw[hb];exact z,fun g a e=>?_⟩;rcases hv g a with o|o
   ·exact A g o e
   ·have:=((h.nd M).kids.lt e).2;omega
  rw[List.getElem_set,List.getElem_set];by_cases R:k=i
  ·rw[if_pos R,if_neg cA];exact Q j l cA
  ·rw[if_neg R];by_cases o:k=j
   ·rw[if_pos o];obtain⟨z,A⟩:=Q i G cA;exact⟨Ne.symm z,A.symm⟩
   ·rw[if_neg o];exact h.tV G l cA
 ·intro g a;rcases a with e|e|e|e|⟨s,F,e⟩
  ·exact .inl (.inl e)
  ·exact .inl (.inr (.inl e))
  ·exact .inl (.inr (.inr (.inl e)))
  ·exact .inl (.inr (.inr (.inr (.inl e))))
  ·have O:s∈x.rs.set k r:=F;rcases wM O with rfl|⟨j,l,_,rfl⟩
   ·rcases e with e|e
    ·exact .inl (.inr (.inr (.inr (.inr ⟨_,List.getElem_mem hk,.inl (by rw[e,hb])⟩))))
    ·rcases hv g e with o|o
     ·exact .inl (.inr (.inr (.inr (.inr ⟨_,List.getElem_mem hk,.inr o⟩))))
     ·exact .inr o
   ·exact .inl (.inr (.inr (.inr (.inr ⟨_,List.getElem_mem l,e⟩))))
theorem JO(h:Dc w B p x){k:Nat}(hk:k<x.rs.length){r:Rw}{f:Nd->Nd}(hf:r.nd=f x.rs[k].nd):(x.put k r).l=iB x.l x.rs[k].nd.id f:=by
 have:=h.VC.lQ (k:=k) (by rw[EJ];exact hk) f;rw[Ks x hk] at this;rw[<-this];show(x.rs.set k r).map (·.nd)=(x.rs.map (·.nd)).set k _;rw[List.map_set,hf]
theorem Dc.gR(h:Dc w B p x){k:Nat}(hk:k<x.rs.length){r:Rw}(hb:r.b=x.rs[k].b)(hid:r.nd.id=x.rs[k].nd.id)(hvk:r.vk=x.rs[k].vk)(hkd:r.nd.kids=x.rs[k].nd.kids)(ha:nB w r.va r.nd.attrs){i:Nat}{u:Value}
 (hc:r.nd.cells r.va r.vk=(x.rs[k].nd.cells x.rs[k].va x.rs[k].vk).setIfInBounds i u):oC w B p x (x.put k r) (w.setCell ⟨x.rs[k].b,i,none⟩ u):=by
 have e:=h.nd hk;have a:gA (fun g=>g=x.rs[k].b\/x.rs[k].vk.val.ownBlock=some g) w (w.setCell ⟨x.rs[k].b,i,none⟩ u):=gA.setCell (gA.refl _ _) (fun _=> .inl rfl) u;refine h.node hk hb hid a ⟨?_,by rw[hb];exact e.base,ha.but a (fun g c f j=>h.eD g c f (.inr (.inr (.inr (.inr ⟨_,List.getElem_mem hk,j⟩))))),?_⟩ (fun g j=> .inl (by rw[<-hvk];exact j))
 ·rw[hb,hc];exact heap_set e.mA i u
 ·rw[hvk,hkd];refine e.kids.sB (fun g j=>Below.heap_setCell _ _ _ _ ?_);rintro rfl;obtain⟨d,l⟩:=e.kids.ty j;exact RA l e.mA nA rfl
theorem Dc.Cb(h:Dc w B p x){k:Nat}(hk:k<x.rs.length){r:Rw}(hb:r.b=x.rs[k].b)(hva:r.va=x.rs[k].va){f:List Int->List Int}(hnd:r.nd=ZC f x.rs[k].nd)(hw:gA (fun g=>x.rs[k].vk.val.ownBlock=some g) w w')(hown:kI.Own w' B r.vk.val r.nd.kids)
 (hv:∀g,r.vk.val.ownBlock=some g->x.rs[k].vk.val.ownBlock=some g\/w.heap.size<=g):oC w B p x (x.put k r) (w'.setCell ⟨x.rs[k].b,6,none⟩ r.vk.val):=by
 have j:=h.nd hk;have m:x.rs[k].vk.val.ownBlock≠some x.rs[k].b:=by
  intro e;obtain⟨d,n⟩:=j.kids.ty e;exact RA n j.mA nA rfl
 have a:w'.heap[x.rs[k].b]? = some (.cells (x.rs[k].nd.cells x.rs[k].va x.rs[k].vk) 53 (0,0)):=(hw.block _ j.lt m).trans j.mA;have i:gA (fun g=>g=x.rs[k].b\/x.rs[k].vk.val.ownBlock=some g) w (w'.setCell ⟨x.rs[k].b,6,none⟩ r.vk.val):=gA.setCell (hw.mono fun _ _ l=> .inr l) (fun _=> .inl rfl) _;refine h.node hk hb (by rw[hnd];rfl) i ⟨?_,by rw[hb];exact j.base,?_,?_⟩ hv
 ·rw[hb,hva,hnd];exact heap_set a 6 _
 ·have:r.nd.attrs=x.rs[k].nd.attrs:=(by rw[hnd];rfl);rw[hva,this];exact j.mB.but i (fun g c f l=>h.eD g c f (.inr (.inr (.inr (.inr ⟨_,List.getElem_mem hk,l⟩)))))
 ·refine hown.sB (fun g l=>Below.heap_setCell _ _ _ _ ?_);rintro rfl;obtain⟨d,n⟩:=hown.ty l;exact RA n a nA rfl
end
def ZD:List Int->Int->Nat
 |[],_=>0
 |a:: r,t=>if t=a then 0 else ZD r t+1
theorem Qm(l:List Int)(t:Int):ZD l t<=l.length:=by
 induction l with
 |nil=>simp[ZD]
 |cons a r ih=>simp only[ZD,List.length_cons];split<;>omega
theorem oQ:∀{l:List Int} {t:Int} {k:Nat} (hk:k<l.length),l[k]=t->(∀j (h:j<l.length),j<k->l[j]≠t)->ZD l t=k
 |[],_,_,hk,_,_=>absurd hk DA
 |a:: r,t,0,_,h,_=>by simp only[List.getElem_cons_zero] at h;simp[ZD,h]
 |a:: r,t,k+1,hk,h,hj=>by
  have h0:=hj 0 DA cA;simp only[List.getElem_cons_zero] at h0;rw[ZD,if_neg (fun e=>h0 e.symm),oQ (k:=k) (by simpa using hk) (by simpa using h) (fun j h1 h2=>by have:=hj (j+1) (by simpa using h1) cA;rwa[List.getElem_cons_succ] at this)]
theorem rU{l:List Int}{t:Int}(h:t∈l):ZD l t<l.length:=by
 induction l with
 |nil=>simp at h
 |cons a r ih=>
  simp only[ZD,List.length_cons];split
  ·omega
  ·rename_i e;have:=ih ((List.mem_cons.1 h).resolve_left e);omega
theorem mD{w:World}{B:Nat}{A:jA}{l:List Int}(h:kI.pA w B A l){k:Nat}(hk:k<l.length):∃b o,A=some (dA b o)/\b<B/\w.cell? ⟨b,o+k,none⟩=some (aA l[k]):=by
 obtain⟨b,o,a,c,d⟩:=h.at hk;refine⟨b,o,a,c,?_⟩;have:=d 0 _ rfl;rw[show k*kI.size+0=k from Nat.mul_one k] at this;exact this
theorem oM(l:List Int)(t:Int)(A:jA)(n c:Nat)(w:World)(hn:l.length=n)(hn2:n<=1000000)(ht:t∈l)(H:kI.pA w w.heap.size A l):
 fA 82 #[.slice A n c,aA t] w fun e w'=>e= .returned (aA (ZD l t))/\w=w':=by
 have q:=Zh H;have p:=Zh hn;have r:=Zh ht;clear H hn ht;go_enter func82,ntmps82;go_wp2_with fail;go_loop [8] (fun i=>∃k:Nat,k<=n/\i = aA k/\Hid (∀j (h:j<l.length),j<k->l[j]≠t)) (fun i=>n-(intOf i).toNat)
 case atStart=>exact⟨0,by omega,rfl,Zh (fun j _ h=>by omega)⟩
 case round=>
  obtain⟨k,y,rfl,f⟩:=hrel;by_cases s:k<n
  ·have d:k<l.length:=(uA p.out);obtain⟨b,o,rfl,z,B⟩:=mD q d;by_cases a:t=l[k]
   ·have u:(t==l[k])=true:=beq_iff_eq.2 a;have g:=Zh a;clear a;go_wp2;go_ret;exact⟨fK (by rw[oQ d g.out.symm f.out]),rfl⟩
   ·have u:(t==l[k])=false:=beq_eq_false_iff_ne.2 a;have g:=Zh a;clear a;go_wp2;go_round
    case rel=>
     refine⟨k+1,by omega,by go_num,Zh (fun j m v=>?_)⟩;by_cases e:j=k
     ·subst e;exact fun x=>g x.symm
     ·exact f j m cA
    case measure=>simp[intOf];omega
  ·exfalso;obtain⟨j,m,e⟩:=List.mem_iff_getElem.1 r;exact f j m (uA p.out) e
theorem qj(w:World)(ty:TypeId)(b o c:Nat)(hc:(w.cell? (dA b o)).isSome=true)(hf:w.frozen? (dA b o)=false):
 (Builtin.clear_ #[51] ty #[.slice (some (dA b o)) 1 c]).run prog w= .ok (.tuple #[]) (w.setCells b o [aA 0]):=by
 have a:=run_storeCells_cells (P:=prog) b o [aA 0] 0 w (by intro j d;simp at d;subst d;simpa using hc) (by intro j d;simp at d;subst d;simpa using hf) (by simp[Value.oneCell']);simp only[Nat.add_zero] at a;have e:(Builtin.zeroCells (Value.int .i64 0).cells 1).toList=[aA 0]:=by
  simp[Builtin.zeroCells,Value.cells,Array.range]
 simp[Builtin.clear_,run_underlying underlying51,e,a]
theorem aW(g i r c:Nat){B:Nat}{l:List Int}(w:World)(hl:l.length=i+1+r)(hl2:i+1+r<=1000000)(h:kI.Own w B (.slice (some (dA g 0)) (i+1+r) c) l):
 fA 159 #[.slice (some (dA g 0)) (i+1+r) c,aA i,aA ((i:Int)+1)] w fun e w'=>
  e= .returned (.slice (some (dA g 0)) (i+r) c)/\kI.Own w' B (.slice (some (dA g 0)) (i+r) c) (l.eraseIdx i)/\gA (fun k=>k=g) w w':=by
 obtain⟨N,C,D,E,F⟩:=info_parts fV;rcases h.form with⟨hv,_⟩|⟨g',c',cur,hv,_,hBg,hlt,hh,zC,cC,f,v⟩
 ·cases hv
 injection hv with e1 e2 e3;injection e1 with e1;injection e1 with e1;subst e1;subst e3;clear e2;rw[hl] at zC v;have f:cur.size=c*1:=f;have v:cur.toList.take ((i+1+r)*1)=kI.cells l:=v;obtain⟨news,a⟩:∃news,news=kI.cells (l.drop (i+1)):=⟨_,rfl⟩;have G:news.length=r:=(by rw[a,Kind.fH,List.length_drop,hl];show(i+1+r-(i+1))*1=r;omega);have p:news=(kI.cells l).drop ((i+1)*1):=(by rw[a,Kind.vN];rfl);have b:∀k,w.drew.cell? (dA g k)=cur[k]?:=fun k=>cell_of_row w.drew g k _ _ (0,0) hh
 have O:Hid (news.length=r*1):=(by show news.length=r*1;omega);have P:Hid (∀u∈news,u.oneCell'=true):=(by intro u j;rw[a] at j;exact Kind.xP _ _ u j);have Q:Hid (∀t,t<news.length->(w.drew.cell? ⟨g,0+i*1+t,none⟩).isSome=true/\w.drew.frozen? ⟨g,0+i*1+t,none⟩=false):=by
  intro t x;refine⟨by rw[b,Array.getElem?_eq_getElem cA];rfl,?_⟩;have m:w.drew.heap[g]? = some (.cells cur kI.e (0,0)):=hh;simp[World.frozen?,m]
 have o:∀t u,news[t]? = some u->w.drew.cell? ⟨g,i+1+t,none⟩=some u:=by
  intro t u j;have x:=(List.getElem?_eq_some_iff.1 j).1;rw[b,<-j,p,List.getElem?_drop,<-v,List.getElem?_take,if_pos cA,Array.getElem?_toList,Nat.mul_one]
 obtain⟨A,hA,R⟩:∃A:Addr,(if c=i+1 then(some ((dA g 0):Addr)) else some ⟨g,i+1,none⟩)=some A/\Hid (∀t u,news[t]? = some u->w.drew.cell? (A.add t)=some u):=by
  by_cases y:c=i+1
  ·refine⟨(dA g 0),if_pos y,fun t u j=>?_⟩;have x:=(List.getElem?_eq_some_iff.1 j).1;omega
  ·refine⟨⟨g,i+1,none⟩,if_neg y,fun t u j=>?_⟩;rw[Addr.add_lit];exact o t u j
 obtain⟨d,n⟩:∃d,d=w.drew.setCells g (0+i*1) news:=⟨_,rfl⟩;have m:w.drew.heap[g]? = some (.cells cur kI.e (0,0)):=hh;obtain⟨T,z,H,K⟩:=FH g news (0+i*1) w.drew cur _ _ m;rw[<-n] at z;have U:∀I q,(Builtin.clear_ #[51] I #[.slice (some ⟨g,i+r,none⟩) (i+1+r-(i+r)) q]).run prog d= .ok (.tuple #[]) (d.setCells g (i+r) [aA 0]):=
  fun I q=>by
   rw[show i+1+r-(i+r)=1 by omega];exact qj d I g (i+r) q (by rw[cell_of_row d g _ _ _ (0,0) z,Array.getElem?_eq_getElem cA];rfl) (by simp[World.frozen?,z])
 obtain⟨c2,L,J,M⟩:=FH g [aA 0] (i+r) d T _ _ z;have V:Hid (kI.Own (d.setCells g (i+r) [aA 0]) B (.slice (some (dA g 0)) (i+r) c) (l.eraseIdx i)):=by
  refine Kind.wG (by rw[List.length_eraseIdx_of_lt cA];omega) hBg L cA cC (by rw[J,H];exact f) ?_;have W:=J7 (s:=1) v cA p (zs:=[aA 0]) rfl H (fun k X=>by have:=K k X;rwa[Nat.zero_add] at this) J (by simpa using M);rw[show kI.size=1 from rfl,W,oW,Kind.yK,Kind.uN,<-a];rfl
 have Y:Hid (gA (fun k=>k=g) w (d.setCells g (i+r) [aA 0])):=by
  rw[n];exact gA.setCells (S:=fun k=>k=g) (gA.setCells (S:=fun k=>k=g) (gA.drew (gA.refl _ w)) (fun _=>rfl) _ _) (fun _=>rfl) _ _
 have Z:Hid (d=w.drew.setCells g (0+i*1) news):=n;have a0:i<=c:=cA;have a1:i+1<=c:=cA;have a2:((i:Int)==(i:Int)+1)=false:=beq_eq_false_iff_ne.2 cA;unfold maxLen at cC;have a3:(0:Int)<=(i:Int)+1:=cA;have a4:(i:Int)+1<=(i:Int)+1+(r:Int):=cA;clear n hh m f v a G p b o z H K L J M h hl D F;go_enter func159,ntmps159;go_wp2_with fail
 go_region_law (refine step_append_room rfl (.tmp 22) (.tmp 25) 51 rfl 3 N 1 underlying51 C E g 0 i c (by simp[Act.eval,Act.put]) A r (c-(i+1)) news (by simp[Act.eval,Act.put]) O R P cA Q ?_;rw[<-Z.out])
 go_wp2;go_ret;exact⟨rfl,V,Y⟩
theorem KW:∀{l:List Int} {t:Int},l.Nodup->t∈l->l.eraseIdx (ZD l t)=less t l
 |[],_,_,h=>absurd h DA
 |a:: r,t,hn,h=>by
  obtain⟨h1,h2⟩:=List.nodup_cons.1 hn;by_cases e:t=a
  ·subst e;simp only[ZD,if_true,List.eraseIdx_cons_zero,less];rw[List.filter_cons];simp only[ne_eq,not_true_eq_false,decide_false,Bool.false_eq_true,if_false];exact(List.filter_eq_self.2 (fun c hc=>by simp;rintro rfl;exact h1 hc)).symm
  ·have ih:=KW h2 ((List.mem_cons.1 h).resolve_left e);rw[ZD,if_neg e,List.eraseIdx_cons_succ,ih];simp only[less];rw[List.filter_cons];simp[Ne.symm e]
def Rm(w:World)(B:Nat)(v:Value)(l:List Int)(t:Int)(e:Ending)(w':World):Prop:=
 ∃A n c,e= .returned (.slice A n c)/\kI.Own w' B (.slice A n c) (less t l)/\gA (fun k=>v.ownBlock=some k) w w'/\(Value.slice A n c).ownBlock=v.ownBlock
theorem pW(l:List Int)(t:Int){B:Nat}{v:Value}(w:World)(hn:l.length<=1000000)(ht:t∈l)(hd:l.Nodup)(h:kI.Own w B v l):
 fA 182 #[v,aA t] w (Rm w B v l t):=by
 have d:=rU ht;obtain⟨g,c,rfl⟩:∃g c,v= .slice (some (dA g 0)) l.length c:=by
  rcases h.form with⟨_,rfl⟩|⟨g,c,cur,rfl,_⟩
  ·simp at ht
  ·exact⟨g,c,rfl⟩
 obtain⟨k,a⟩:∃k,k=ZD l t:=⟨_,rfl⟩;rw[<-a] at d;obtain⟨r,b⟩:∃r,l.length=k+1+r:=⟨l.length-(k+1),by omega⟩;rw[b] at h hn|-;obtain⟨A,n,I,s,u,x,y,z,f⟩:=h.slice;injection s with e1 e2 e3;subst e1;subst e2;subst e3;have H:=Zh h;have C:=Zh f;have j:=Zh b;have m:=Zh a;have o:=Zh ht;have D:=Zh hd;clear h u x y z f b a ht hd d;go_enter func182,ntmps182;go_wp2_with fail;refine zA (oM l t _ (k+1+r) c w j hn o C) ?_;rw[<-m.out];go_wp2_with fail;refine(aW g k r c w j hn H).mono ?_;rintro e J ⟨rfl,p,q⟩;have E:=Zh p;have F:=Zh q;clear p q;go_wp2_with fail;go_ret;refine⟨some (dA g 0),k+r,c,rfl,?_,F.mono (fun i _ G=>by subst G;rfl),rfl⟩;rw[<-KW D.out o.out,<-m.out];exact E
def QQ{α:Type}(K:Kind prog α)(w:World)(l:List α)(e:Ending)(w':World):Prop:=∃A n c,e= .returned (.slice A n c)/\K.Own w' w.heap.size (.slice A n c) l/\eA w w'
theorem TR(l:List Int)(A:jA)(n c:Nat)(w:World)(hn:l.length=n)(hn2:n<=1000000)(hz:A=none->c=0/\n=0)(H:kI.pA w w.heap.size A l):
 fA 71 #[.slice A n c] w (QQ kI w l):=by
 cases A with
 |none=>
  obtain⟨rfl,rfl⟩:=hz rfl;obtain rfl:l=[]:=List.length_eq_zero_iff.1 hn;clear H hn hz;have f:=fun w'=>Lib.run_eql_slice_nil (P:=prog) w' 51 3 Option.none 0 0 0 0 underlying51
  go_enter func71,ntmps71;go_wp2;go_ret;exact⟨none,0,0,rfl,Kind.Own.nil _ _ _,Ze⟩
 |some a=>
  have g:=Zh hn;have i:=Zh H;clear H hn hz;have f:=fun w'=>Lib.run_eql_slice_nil (P:=prog) w' 51 3 (some a) n c 0 0 underlying51
  go_enter func71,ntmps71;go_wp2_with (at_builtin;refine kI.iC rfl _ _ rfl (v:=.slice (some ⟨w.heap.size,0,Option.none⟩) 0 0) (l:=[]) (m:=l) (B:=w.heap.size) rfl (Kind.Own.made kI w _ Zl) rfl g RB (i.on (Zb _ _)) AA DA ?_;intro s t b d j);go_ret;obtain⟨o,p,q,rfl,_⟩:=b.slice;exact⟨o,p,q,rfl,b,(Zb _ _).grown d DA (fun k r=>by simp[Value.ownBlock] at r;omega)⟩
theorem bS(l:List P3.At)(A:jA)(n c:Nat)(w:World)(hn:l.length=n)(hn2:n<=1000000)(hz:A=none->c=0/\n=0)(H:kA.pA w w.heap.size A l):
 fA 70 #[.slice A n c] w (QQ kA w l):=by
 cases A with
 |none=>
  obtain⟨rfl,rfl⟩:=hz rfl;obtain rfl:l=[]:=List.length_eq_zero_iff.1 hn;clear H hn hz;have f:=fun w'=>Lib.run_eql_slice_nil (P:=prog) w' 50 119 Option.none 0 0 0 0 underlying50
  go_enter func70,ntmps70;go_wp2;go_ret;exact⟨none,0,0,rfl,Kind.Own.nil _ _ _,Ze⟩
 |some a=>
  have g:=Zh hn;have i:=Zh H;clear H hn hz;have f:=fun w'=>Lib.run_eql_slice_nil (P:=prog) w' 50 119 (some a) n c 0 0 underlying50
  go_enter func70,ntmps70;go_wp2_with (at_builtin;refine kA.iC rfl _ _ rfl (v:=.slice (some ⟨w.heap.size,0,Option.none⟩) 0 0) (l:=[]) (m:=l) (B:=w.heap.size) rfl (Kind.Own.made kA w _ Zl) rfl g RB (i.on (Zb _ _)) AA DA ?_;intro s t b d j);go_ret;obtain⟨o,p,q,rfl,_⟩:=b.slice;exact⟨o,p,q,rfl,b,(Zb _ _).grown d DA (fun k r=>by simp[Value.ownBlock] at r;omega)⟩
end P5
namespace P3
open Go.RowKit
theorem uM(s:wA)(w:World){r:Bool}(h:P1.NC s.data.toList=r)(hs:s.size<=maxLen):fA 54 #[bA s] w fun e w'=>e= .returned (.bool r)/\w=w':=by
 subst h;exact P1.mg s w hs
theorem pJ(s:wA)(w:World){r:Bool}(h:P1.YB s.data.toList=r)(hs:s.size<=maxLen):fA 53 #[bA s] w fun e w'=>e= .returned (.bool r)/\w=w':=by
 subst h;exact P1.LX s w hs
theorem lM(l m:List At)(A B:jA)(n n' c d:Nat)(w:World)(hn:l.length=n)(hn':m.length=n')(hl:n<=1000000)(hm:n'<=1000000)(H:pA w w.heap.size A l)(H2:pA w w.heap.size B m):
 fA 69 #[.slice A n c,.slice B n' d] w fun e w'=>e= .returned (.bool (zD l m))/\eA w w':=by
 have u:=Zh H;have r:=Zh H2;have s:=Zh hn;have j:=Zh hn';clear H H2 hn hn';by_cases a:n=n'
 ·subst a;go_enter func69,ntmps69;go_wp2_with fail;go_loopw [5] (fun i wr=>∃k:Nat,k<=n/\i = aA k/\Hid (eA w wr)/\Hid (pI l m k)) (fun i _=>n-(intOf i).toNat)
  case atStart=>exact⟨0,by omega,rfl,Zh Ze,Zh (pI.zero _ _)⟩
  case round=>
   obtain⟨k,F,rfl,q,t⟩:=hrel;by_cases v:k<n
   ·have f:k<l.length:=(uA s.out);have g:k<m.length:=(uA j.out);obtain⟨b,o,rfl,G,I,J,K⟩:=(u.below q Zl) k f;obtain⟨L,M,rfl,x,y,z,C⟩:=(r.below q Zl) k g;have N:=zc;cases hat:PF l[k] m[k]
    ·have D:=GQ hat;have p:=Zh hat;clear hat;go_wp2_with fail;go_quiet (fail);go_wp2_with fail;go_ret;exact⟨MB (FX f g p).symm,PA q _⟩
    ·have D:=GQ hat;have p:=Zh hat;clear hat;go_wp2_with fail;go_quiet (fail);go_wp2_with fail;go_roundw
     case rel=>exact⟨k+1,by omega,by go_num,Zh (PA q _),Zh (t.next f g p)⟩
     case measure=>simp[intOf];omega
   ·obtain rfl:k=n:=cA
    go_wp2_with fail;go_ret;exact⟨MB (t.all s j).symm,q⟩
 ·have O:((n:Int) != (n':Int))=true:=AA;have E:Hid (l.length≠m.length):=Zh (by rw[s.out,j.out];exact a);clear a;go_enter func69,ntmps69;go_wp2_with fail;go_ret;exact⟨MB (EX E).symm,Ze⟩
theorem ym{l:List At}{s:wA}{j k:Nat}(hj:j<l.length)(hjk:j<k)(he:(l[j].nm.toList==s.toList)=true):nD (l.take k) s=true:=
 RP.2 ⟨l[j],List.mem_take_iff_getElem.2 ⟨j,by omega,rfl⟩,by simpa using he⟩
theorem zm{l:List At}{s:wA}(h:vF l s=none):nD l s=false:=by unfold nD;rw[h];rfl
theorem nZ(l:List At)(A:jA)(n c:Nat)(w:World)(hn:l.length=n)(hl:n<=1000000)(hwf:Wf l)(H:pA w w.heap.size A l):
 fA 55 #[.slice A n c] w fun e w'=>e= .returned (.bool (bC l))/\eA w w':=by
 have v:=Zh H;have z:=Zh hn;have E:=Zh hwf;clear H hn hwf;go_enter func55,ntmps55;go_wp2_with fail;go_loopw [3] (fun i wr=>∃k:Nat,k<=n/\i = aA k/\Hid (eA w wr)/\Hid (QH l k)) (fun i _=>n-(intOf i).toNat)
 case atStart=>exact⟨0,by omega,rfl,Zh Ze,Zh (QH.zero _)⟩
 case round=>
  obtain⟨k,L,rfl,t,B⟩:=hrel;by_cases F:k<n
  ·have a:k<l.length:=(uA z.out);obtain⟨b,o,G,M,N,O,P⟩:=(v.below t Zl) k a;subst G;obtain⟨p,q⟩:=E.at_ a;cases hnm:P1.NC l[k].nm.data.toList
   ·have d:=Zh hnm;clear hnm;go_wp2_with fail;refine zA (uM _ _ d p) ?_;go_wp2_with fail;refine zA (P1.LX _ _ q) ?_;go_wp2_with fail;go_ret;exact⟨MB (tM a (by rw[mI a,d.out];rfl)).symm,t⟩
   ·have d:=Zh hnm;clear hnm;cases htx:P1.YB l[k].vl.data.toList
    ·have f:=Zh htx;clear htx;go_wp2_with fail;refine zA (uM _ _ d p) ?_;go_wp2_with fail;refine zA (pJ _ _ f q) ?_;go_wp2_with fail;go_ret;exact⟨MB (tM a (by rw[mI a,f.out];simp)).symm,t⟩
    ·have f:=Zh htx;clear htx;go_wp2_with fail;refine zA (uM _ _ d p) ?_;go_wp2_with fail;refine zA (pJ _ _ f q) ?_;go_wp2_with fail;obtain⟨C,rfl⟩:∃C:World,C=wr:=⟨_,rfl⟩;go_loopw [6] (fun i wr=>∃j:Nat,j<=k/\i = aA j/\Hid (eA w wr)/\Hid (vF (l.take j) l[k].nm=none)) (fun i _=>k-(intOf i).toNat)
     case atStart=>exact⟨0,by omega,rfl,t,Zh (by simp[vF])⟩
     case round=>
      obtain⟨j,Q,rfl,g,u⟩:=hrel;by_cases x:j<k
      ·have r:j<l.length:=cA;obtain⟨R,S,s,I,T,U,V⟩:=(v.below g Zl) j r;obtain⟨J,K,m,D,W,X,Y⟩:=(v.below g Zl) k a;injection s with s;injection s with e1 e2;subst e1;subst e2;injection m with m;injection m with e1 e2;subst e1;subst e2;cases he:(l[j].nm.toList==l[k].nm.toList)
       ·have y:=Zh he;go_wp2_with fail;go_quiet (fail);go_wp2_with fail;go_roundw
        case rel=>exact⟨j+1,by omega,by go_num,Zh (PA g _),Zh (DW u r y)⟩
        case measure=>simp[intOf];omega
       ·have y:=Zh he;go_wp2_with fail;go_quiet (fail);go_wp2_with fail;go_ret;exact⟨MB (tM a (by rw[mI a,ym r x y.out];simp)).symm,PA g _⟩
      ·obtain rfl:j=k:=cA
       go_wp2_with fail;go_roundw
       case rel=>exact⟨j+1,by omega,by go_num,g,Zh (B.next (by rw[mI a,d.out,f.out,zm u.out];rfl))⟩
       case measure=>simp[intOf];omega
  ·obtain rfl:k=n:=cA
   go_wp2_with fail;go_ret;exact⟨MB (by rw[j7 B.out z.out];exact decide_eq_decide.mpr cA),t⟩
end P3
open Go.RowKit
abbrev JA(r:P5.Rc)(A:Option Addr)(n c:Nat):Array Value:=#[.int .i64 r.op,.int .i64 r.id,.int .i64 r.par,.int .i64 r.rA,.string r.tag,.string r.txt,.string r.key,.slice A n c]
abbrev XA(x:P5.Nd)(A:Option Addr)(n c:Nat)(A2:Option Addr)(n2 c2:Nat):Array Value:=#[.int .i64 x.id,.int .i64 x.par,.string x.tag,.string x.txt,.string x.key,.slice A n c,.slice A2 n2 c2,.int .i64 x.note]
namespace P5
open Go.RowKit Kd P4
def iR:Go.Shelf.Ren:=⟨fun|21=>169|27=>183|28=>184|35=>190|39=>194|n=>n,fun|0=>0|3=>3|4=>4|22=>51|n=>n,fun|n=>n⟩
theorem sO:Go.Proofs.Lays2.n21 prog iR:={
 mixed:=by kernel_rfl
 f21:=func169.trans (congrArg some (by kernel_rfl))
 f27:=func183.trans (congrArg some (by kernel_rfl))
 f28:=func184.trans (congrArg some (by kernel_rfl))
 f35:=func190.trans (congrArg some (by kernel_rfl))
 f39:=func194.trans (congrArg some (by kernel_rfl))
 t0:=underlying0
 a0:=isAgg0
 z0:=sizeOf0
 v0:=zeroValue0
 t3:=underlying3
 a3:=isAgg3
 z3:=sizeOf3
 v3:=zeroValue3
 t4:=underlying4
 a4:=isAgg4
 z4:=sizeOf4
 v4:=zeroValue4
 t22:=underlying51
 a22:=isAgg51
 z22:=sizeOf51
 v22:=zeroValue51
 i3:=fV}
theorem Sm{c2:Array Value}{C:List Value}{n i:Nat}{u:Value}(hC:C.length=n)(hi:i<=n)(hs:n+1<=c2.size)(h:∀k,k<n+1->c2[k]? = if k<i then C[k]? else if k=i then some u else C[k-1]?):
 c2.toList.take (n+1)=C.take i++u:: C.drop i:=by
 apply List.ext_getElem?;intro k;rw[List.getElem?_take];have a:(C.take i).length=i:=(by rw[List.length_take];omega);by_cases b:k<n+1
 ·rw[if_pos b,Array.getElem?_toList,h k b];by_cases c:k<i
  ·rw[if_pos c,List.getElem?_append_left cA,List.getElem?_take,if_pos c]
  ·rw[if_neg c,List.getElem?_append_right cA,a];by_cases d:k=i
   ·subst d;simp
   ·obtain⟨m,rfl⟩:∃m,k=i+(m+1):=⟨k-i-1,by omega⟩;rw[if_neg d,show i+(m+1)-i=m+1 by omega,List.getElem?_cons_succ,List.getElem?_drop,show i+(m+1)-1=i+m by omega]
 ·rw[if_neg b,List.getElem?_eq_none];simp only[List.length_append,List.length_cons,List.length_drop,a];omega
theorem xg(l:List Int)(i:Nat)(t:Int):kI.cells (l.take i++t:: l.drop i)=(kI.cells l).take i ++ aA t:: (kI.cells l).drop i:=by
 rw[Kind.yK];show _++kI.cells ([t]++l.drop i)=_;rw[Kind.yK,Kind.uN,Kind.vN];have:i*kI.size=i:=Nat.mul_one i;rw[this];rfl
theorem WG(l:List Int):(kI.cells l).length=l.length:=by rw[Kind.fH];exact Nat.mul_one _
def sj(w:World)(B:Nat)(v:Value)(l:List Int)(e:Ending)(w':World):Prop:=
 ∃A n c,e= .returned (.slice A n c)/\kI.Own w' B (.slice A n c) l/\gA (fun k=>v.ownBlock=some k) w w'/\∀g,(Value.slice A n c).ownBlock=some g->v.ownBlock=some g\/w.heap.size<=g
theorem LW(l:List Int)(t:Int)(i:Nat){B vb:Nat}{v:Value}(w:World)(hi:i<=l.length)(hl:l.length<=1000000)(hB:B<=w.heap.size)(h:kI.Own w B v l)
 (hb:w.heap[vb]? = some (.cells #[aA t] 3 (0,0))) (hne:v.ownBlock≠some vb):
 fA 169 #[v,aA i,.slice (some (dA vb 0)) 1 1] w (sj w B v (l.take i++t:: l.drop i)):=by
 have o:∀j u,([aA t]:List Value)[j]? = some u->w.cell? ⟨vb,0+j,none⟩=some u:=by
  intro j u D;cases j with
  |zero=>
   have:Value.int .i64 t=u:=(by simpa using D);subst this;exact cell_of_row w vb 0 _ _ (0,0) hb
  |succ j=>simp at D
 have p:∀u∈([aA t]:List Value),u.oneCell'=true:=(by intro u hu;simp at hu;subst hu;rfl);have O:∀u∈kI.cells l,u.oneCell'=true:=Kind.xP _ _;have d:∀(W:World) (g:Nat) (cur:Array Value) (c:Nat),B<=g->W.heap[g]? = some (.cells cur 3 (0,0))->l.length+1<=c->c<=maxLen->cur.size=c->(∀k,k<l.length+1->cur[k]? = if k<i then(kI.cells l)[k]? else if k=i then some (aA t) else(kI.cells l)[k-1]?)->
  kI.Own W B (.slice (some (dA g 0)) (l.length+1) c) (l.take i++t:: l.drop i):=by
  intro W g cur c q F n K h3 h4;refine Kind.wG (cur:=cur) (by simp;omega) q F n K (by rw[h3];exact(Nat.mul_one c).symm) ?_;rw[show(l.length+1)*kI.size=l.length+1 from Nat.mul_one _,Sm (WG l) hi (by omega) h4,xg]
 have r:∀c,grownCap w (l.length+1) c 3<=maxLen:=fun c=>grownCap_le_maxLen w _ c _ (by unfold maxLen;omega)
 have s:∀c,l.length+1<=grownCap w (l.length+1) c 3:=fun c=>grownCap_ge w _ c _
 have E:∀k,(Builtin.zeroCells (Value.int .i64 0).cells k).size=k:=fun k=>by simp[Builtin.zeroCells,Value.cells]
 have H:∀(c:Nat) (k:Nat),k<l.length+1->i=l.length->((kI.cells l++[Value.int .i64 t]).toArray++Builtin.zeroCells (Value.int .i64 0).cells c)[k]? = if k<i then(kI.cells l)[k]? else if k=i then some (aA t) else(kI.cells l)[k-1]?:=by
  intro c k x P;have Q:(kI.cells l++[Value.int .i64 t]).toArray.size=l.length+1:=(by simp[WG]);rw[Array.getElem?_append_left (by omega),List.getElem?_toArray];by_cases n:k<i
  ·rw[if_pos n,List.getElem?_append_left (by rw[WG];omega)]
  ·rw[if_neg n,List.getElem?_append_right (by rw[WG];omega),WG,if_pos (by omega),show k-l.length=0 by omega];rfl
 rcases h.form with⟨rfl,rfl⟩|⟨g,c,cur,rfl,_,hBg,hlt,F,zC,cC,hcs,hta⟩
 ·obtain rfl:i=0:=by simpa using hi
  refine(Any2.slices_Insert_int_end_grow sO none 0 0 vb 0 1 1 [] [aA t] w (by omega) (by omega) (by omega) (by omega) rfl rfl (fun _=>rfl) (fun a R=>by cases R) o p).mono ?_;rintro e w' ⟨rfl,rfl⟩;have Q:=H (grownCap w 1 0 3-1);refine⟨some ⟨w.heap.size,0,none⟩,1,grownCap w 1 0 3,rfl,?_,gA.alloc (gA.drew (gA.refl _ _)) _,fun g q=> .inr (by simp[Value.ownBlock] at q;omega)⟩;exact d _ w.heap.size _ _ hB (heap_alloc_new w.drew _) (s 0) (r 0) (by have:=s 0;simp at this;simp[E,show iR.t 3=3 from rfl];omega) (fun k x=>Q k x rfl)
 ·have T:cur.size=c:=hcs.trans (Nat.mul_one c);have U:cur.toList.take l.length=kI.cells l:=(by rw[<-hta];exact congrArg (fun m=>cur.toList.take m) (Nat.mul_one _).symm);have y:∀k,k<l.length->(kI.cells l)[k]? = cur[k]?:=fun k x=>by rw[<-U,List.getElem?_take,if_pos x,Array.getElem?_toList]
  have L:∀j u,(kI.cells l)[j]? = some u->w.cell? ⟨g,0+j,none⟩=some u:=by
   intro j u D;have V:=(List.getElem?_eq_some_iff.1 D).1;rw[WG] at V;rw[Nat.zero_add,cell_of_row w g j _ _ _ F,<-y j V];exact D
  have z:∀k,w.cell? (dA g k)=cur[k]?:=fun k=>cell_of_row w g k _ _ _ F
  have X:∀k,w.frozen? (dA g k)=false:=fun k=>by simp[World.frozen?,F]
  have Z:w.heap[g]? = some (.cells cur 3 (0,0)):=F;have a0:vb≠g:=fun e=>hne (by rw[e];rfl)
  by_cases P:i=l.length
  ·subst P;by_cases b:l.length+1<=c
   ·refine(Any2.slices_Insert_int_end_room sO g 0 l.length c vb 0 1 1 [aA t] w (by omega) b (by unfold maxLen at cC;omega) rfl (fun j D=>by rw[z,Array.getElem?_eq_getElem (by omega)];rfl) (fun j _=>X _) o p).mono ?_;rintro e w' ⟨rfl,rfl⟩;obtain⟨N,Y,k2,M⟩:=FH g [aA t] (0+l.length) w cur _ _ F;refine⟨some (dA g 0),l.length+1,c,rfl,?_,gA.setCells (S:=fun k=>(Value.slice (some (dA g 0)) l.length c).ownBlock=some k) (gA.refl _ _) (fun _=>rfl) _ _,fun g' q=> .inl q⟩;refine d _ g N c hBg Y b cC (by omega) (fun k x=>?_);rw[M k (by omega)];by_cases n:k<l.length
    ·rw[if_neg (by simp;omega),if_pos n,y k n]
    ·rw[if_pos (by simp;omega),if_neg n,if_pos (by omega),show k-(0+l.length)=0 by omega];rfl
   ·refine(Any2.slices_Insert_int_end_grow sO (some (dA g 0)) l.length c vb 0 1 1 (kI.cells l) [aA t] w (by omega) zC (by omega) (by omega) (WG l) rfl (fun e=>by cases e) (fun a R j u D=>by injection R with R;subst R;rw[Addr.add_lit];exact L j u D) o p).mono ?_;rintro e w' ⟨rfl,rfl⟩;refine⟨some ⟨w.heap.size,0,none⟩,l.length+1,grownCap w (l.length+1) c 3,rfl,?_,gA.alloc (gA.drew (gA.refl _ _)) _,fun g q=> .inr (by simp[Value.ownBlock] at q;omega)⟩;exact d _ w.heap.size _ _ hB (heap_alloc_new w.drew _) (s c) (r c) (by have:=s c;simp[E,WG,show iR.t 3=3 from rfl];omega) (fun k x=>H _ k x rfl)
  ·have I:i<l.length:=(by omega);by_cases b:l.length+1<=c
   ·refine(Any2.slices_Insert_int_shift sO g 0 l.length c i vb 0 1 1 (kI.cells l) [aA t] w I (by omega) b (by unfold maxLen at cC;omega) a0 (WG l) rfl L (fun j D=>by rw[z,Array.getElem?_eq_getElem (by omega)];rfl) (fun j _=>X _) o O p 3 3 1 c (by simp[World.shape?,hb]) (by simp[World.shape?,Z,T]) (by omega) (by simp[World.frozen?,hb]) (by simp[World.frozen?,hb])).mono ?_;rintro e w' ⟨rfl,rfl⟩;obtain⟨N,Y,k2,M⟩:=FH g ((kI.cells l).drop i) (0+(i+1)) w.drew cur _ _ F;obtain⟨c2,m1,m2,m3⟩:=FH g [aA t] (0+i) _ N _ _ Y;refine⟨some (dA g 0),l.length+1,c,rfl,?_,gA.setCells (S:=fun k=>(Value.slice (some (dA g 0)) l.length c).ownBlock=some k) (gA.setCells (S:=fun k=>(Value.slice (some (dA g 0)) l.length c).ownBlock=some k) (gA.drew (gA.refl _ _)) (fun _=>rfl) _ _) (fun _=>rfl) _ _,fun g' q=> .inl q⟩;refine d _ g c2 c hBg m1 b cC (by omega) (fun k x=>?_);rw[m3 k (by omega)];by_cases n:k<i
    ·rw[if_neg (by simp;omega),if_pos n,M k (by omega),if_neg (by omega),y k (by omega)]
    ·rw[if_neg n];by_cases K:k=i
     ·rw[if_pos (by simp;omega),if_pos K,show k-(0+i)=0 by omega];rfl
     ·rw[if_neg (by simp;omega),if_neg K,M k (by omega),if_pos (by rw[List.length_drop,WG];omega),List.getElem?_drop,show i+(k-(0+(i+1)))=k-1 by omega]
   ·refine(Any2.slices_Insert_int_grow sO g 0 l.length c i vb 0 1 1 (kI.cells l) [aA t] w I (by omega) zC (by omega) (by omega) (WG l) rfl L o O p).mono ?_;rintro e w' ⟨rfl,rfl⟩;obtain⟨G,hG⟩:∃G,G=grownCap w (l.length+1) c 3:=⟨_,rfl⟩;have J:=s c;have A:=r c;simp only[show iR.t 3=3 from rfl];rw[<-hG] at J A|-;obtain⟨f,C⟩:∃f,f=((kI.cells l).take i).toArray++Builtin.zeroCells (Value.int .i64 0).cells (l.length+1-i)++Builtin.zeroCells (Value.int .i64 0).cells (G-(l.length+1)):=⟨_,rfl⟩;rw[<-C];have a4:f.size=G:=by
     rw[C];simp[E,WG];omega
    have a1:∀k,k<i->f[k]? = (kI.cells l)[k]?:=by
     intro k x;rw[C,Array.getElem?_append_left (by simp[E,WG];omega),Array.getElem?_append_left (by simp[WG];omega),List.getElem?_toArray,List.getElem?_take,if_pos x]
    have a2:(w.alloc (.cells f 3)).drew.heap[w.heap.size]? = some (.cells f 3 (0,0)):=heap_alloc_new w _;obtain⟨N,Y,k2,M⟩:=FH w.heap.size [aA t] i _ f _ _ a2;have a3:((w.alloc (.cells f 3)).drew.setCells w.heap.size i [aA t]).drew.heap[w.heap.size]? = some (.cells N 3 (0,0)):=Y;obtain⟨c2,m1,m2,m3⟩:=FH w.heap.size ((kI.cells l).drop i) (i+1) _ N _ _ a3;refine⟨some ⟨w.heap.size,0,none⟩,l.length+1,G,rfl,?_,?_,fun g q=> .inr (by simp[Value.ownBlock] at q;omega)⟩
    ·refine d _ w.heap.size c2 G hB m1 J A (by omega) (fun k x=>?_);rw[m3 k (by omega)];by_cases n:k<i
     ·rw[if_neg (by omega),if_pos n,M k (by omega),if_neg (by simp;omega),a1 k n]
     ·rw[if_neg n];by_cases K:k=i
      ·rw[if_neg (by omega),if_pos K,M k (by omega),if_pos (by simp;omega),show k-i=0 by omega];rfl
      ·rw[if_pos (by rw[List.length_drop,WG];omega),if_neg K,List.getElem?_drop,show i+(k-(i+1))=k-1 by omega]
    ·exact gA.setCells (gA.drew (gA.setCells (gA.drew (gA.alloc (gA.refl _ _) _)) (fun e=>absurd e (by omega)) _ _)) (fun e=>absurd e (by omega)) _ _
end P5
namespace P1
open Go.RowKit
theorem SP(s:wA)(w:World):fA 78 #[bA s] w fun e w'=>e= .returned (.bool (fC s.data.toList))/\w=w':=by
 cases h1:(s.toList==[98,114])
 ·cases h2:(s.toList==[104,114])
  ·cases h3:(s.toList==[105,109,103])
   ·cases h4:(s.toList==[105,110,112,117,116])
    all_goals
     go_enter func78,ntmps78;go_wp2_with fail;go_ret;exact⟨MB (ZJ (by simp[h1,h2,h3,h4])),rfl⟩
   ·go_enter func78,ntmps78;go_wp2_with fail
    all_goals (go_ret;exact⟨MB (ZJ (by simp[h1,h2,h3])),rfl⟩)
  ·go_enter func78,ntmps78;go_wp2_with fail
   all_goals (go_ret;exact⟨MB (ZJ (by simp[h1,h2])),rfl⟩)
 ·go_enter func78,ntmps78;go_wp2_with fail
  all_goals (go_ret;exact⟨MB (ZJ (by simp[h1])),rfl⟩)
theorem gI(s:wA)(w:World):fA 29 #[bA s] w fun e w'=>e= .returned (.bool (fC s.data.toList))/\w=w':=by
 cases h1:(s.toList==[98,114])
 ·cases h2:(s.toList==[104,114])
  ·cases h3:(s.toList==[105,109,103])
   ·cases h4:(s.toList==[105,110,112,117,116])
    all_goals
     go_enter func29,ntmps29;go_wp2_with fail;go_ret;exact⟨MB (ZJ (by simp[h1,h2,h3,h4])),rfl⟩
   ·go_enter func29,ntmps29;go_wp2_with fail
    all_goals (go_ret;exact⟨MB (ZJ (by simp[h1,h2,h3])),rfl⟩)
  ·go_enter func29,ntmps29;go_wp2_with fail
   all_goals (go_ret;exact⟨MB (ZJ (by simp[h1,h2])),rfl⟩)
 ·go_enter func29,ntmps29;go_wp2_with fail
  all_goals (go_ret;exact⟨MB (ZJ (by simp[h1])),rfl⟩)
end P1
namespace P5
open Go.RowKit Kd P4
variable{B p:Nat}{x:Dx}
theorem cF.c1{w:World}{r:Rw}(h:cF w B r):w.cell? ⟨r.b,1,none⟩=some (aA r.nd.par):=h.cell 1
theorem cF.c2{w:World}{r:Rw}(h:cF w B r):w.cell? ⟨r.b,2,none⟩=some (bA r.nd.tag):=h.cell 2
theorem cF.c3{w:World}{r:Rw}(h:cF w B r):w.cell? ⟨r.b,3,none⟩=some (bA r.nd.txt):=h.cell 3
theorem cF.c5{w:World}{r:Rw}(h:cF w B r):w.cell? ⟨r.b,5,none⟩=some r.va.val:=h.cell 5
theorem cF.c6{w:World}{r:Rw}(h:cF w B r):w.cell? ⟨r.b,6,none⟩=some r.vk.val:=h.cell 6
theorem VF(y:Int){k:Nat}{b:Nat}(w:World)(hk:k<x.rs.length)(hy:x.rs[k].nd.id=y)(hb:x.rs[k].b=b)(h:Dc w B p x):
 fA 166 #[iA p,aA y] w fun e w'=>e= .returned (iA b)/\eA w w':=by
 have H:=Zh h;have c:=Zh hy;have d:=Zh hb;have g:=h.c0;clear h hy hb;go_enter func166,ntmps166;go_wp2_with fail;refine(xJ y k (x:=b) w (l:=x.rs.map eC) (by simpa using hk) (by simp[eC,c.out]) (by simp[eC,d.out]) H.ar).mono ?_;rintro e i ⟨rfl,a⟩;have f:=Zh a;clear a;go_wp2_with fail;go_ret;exact⟨rfl,f⟩
theorem xC(y:Int){r:Bool}(w:World)(hr:lA x.l y=r)(h:Dc w B p x):
 fA 25 #[iA p,aA y] w fun e w'=>e= .returned (.bool r)/\eA w w':=by
 have H:=Zh h;have m:=h.c0;cases r with
 |false=>
  have f:=Zh hr;clear h hr;go_enter func25,ntmps25;go_wp2_with fail;refine(jQ y w (by rw[H.out.UN];exact f) H.ar).mono ?_;rintro e g ⟨rfl,a⟩;have c:=Zh a;clear a;go_wp2_with fail;go_ret;exact⟨rfl,c⟩
 |true=>
  obtain⟨k,i,d,_⟩:=h.place hr;have j:=Zh d;clear h hr d;go_enter func25,ntmps25;go_wp2_with fail;refine(xJ y k (x:=x.rs[k].b) w (l:=x.rs.map eC) (by simpa using i) (by simp[eC,j.out]) (by simp[eC]) H.ar).mono ?_;rintro e g ⟨rfl,a⟩;have c:=Zh a;clear a;go_wp2_with fail;go_ret;exact⟨rfl,c⟩
theorem sH{m:Int}(w:World)(hn:x.n<=100000)(hm:m=x.n+1)(h:Dc w B p x):fA 38 #[iA p] w fun e w'=>e= .returned (aA m)/\w=w':=by
 have H:=Zh h;have a:=Zh hm;have b:=h.c0;clear h hm;go_enter func38,ntmps38;go_wp2_with fail;refine zA (sg w hn a H.ar) ?_;go_wp2_with fail;go_ret;exact⟨rfl,rfl⟩
theorem aY(w:World)(h:Dc w B p x):fA 40 #[iA p] w fun e w'=>e= .returned (aA x.foc)/\w=w':=by
 have a:=h.c2;clear h;go_enter func40,ntmps40;go_wp2;go_ret;exact⟨rfl,rfl⟩
theorem tj{m:Nat}(w:World)(hm:x.rs.length=m)(h:Dc w B p x):fA 39 #[iA p] w fun e w'=>e= .returned (aA ((x.R:Int)-m))/\eA w w':=by
 have H:=Zh h;have c:=Zh hm;have g:=h.c0;have i:m<=x.R:=(by have:=h.ar.len;simp at this;omega);have j:=h.ar.room;have a:∀n,fA 73 #[iA x.a] (w.drewN n) fun e w'=>e= .returned (aA x.R)/\∃k,w'=w.drewN k:=
  fun n=>(RX (w.drewN n) (H.drewN n).ar).mono fun _ _ ⟨he,hw⟩=>⟨he,n,hw.symm⟩
 have b:∀n,fA 74 #[iA x.a] (w.drewN n) fun e w'=>e= .returned (aA m)/\∃k,w'=w.drewN k:=
  fun n=>(QX (w.drewN n) (by simp[c.out]) (H.drewN n).ar).mono fun _ _ ⟨he,hw⟩=>⟨he,n,hw.symm⟩
 have d:=Zh a;have f:=Zh b;clear h hm a b;go_enter func39,ntmps39;go_wp2_with fail;go_quiet ((first|(go_at_call 73;exact d _)|(go_at_call 74;exact f _)));go_wp2_with fail;go_ret;exact⟨fK (by first|rfl|(rw[IntKind.wrap_i64];omega)),PA Ze _⟩
theorem qG{v:Value}{w:World}{l:List Int}{A:jA}{n c:Nat}(h:kI.Own w B v l)(hv:v= .slice A n c):l.length=n/\n<=c/\c<=maxLen/\(A=none->c=0/\n=0)/\kI.pA w w.heap.size A l:=by
 subst hv;obtain⟨i,j,k,hv,a,b,d,f,g⟩:=h.slice;injection hv with e1 e2 e3;subst e1;subst e2;subst e3;exact⟨a,b,d,fun e=>by have:=f e;omega,g⟩
theorem Tm(w:World)(hn:x.rs.length<=1000)(h:Dc w B p x):fA 37 #[iA p] w (QQ kI w (WA x.l)):=by
 have k:=h.c1;obtain⟨A,n,c,a,_⟩:=h.ids.slice;obtain⟨b,l,m,f,g⟩:=qG h.ids a;have d:n<=1000000:=(by rw[<-b];simp[WA,Dx.l];omega);have o:=Zh b;have q:=Zh f;have r:=Zh g;rw[a] at k;clear h b l m f g a;go_enter func37,ntmps37;go_wp2_with fail;refine(TR (WA x.l) A n c w o d q r).mono ?_;rintro e v ⟨y,z,s,rfl,i,j⟩;have t:=Zh i;have u:=Zh j;clear i j;go_wp2_with fail;go_ret;exact⟨_,_,_,rfl,t,u⟩
def Told(w:World)(nd:Nd)(e:Ending)(w':World):Prop:=
 ∃A n c A2 n2 c2,e= .returned (.agg (XA nd A n c A2 n2 c2))/\nB w' ⟨A,n,c⟩ nd.attrs/\kI.Own w' w.heap.size (.slice A2 n2 c2) nd.kids/\eA w w'
theorem Um{w w2 wf:World}{nd:Nd}{A A2:jA}{n c n2 c2:Nat}{C D:Nat}(hB:eA w w2)(hA:kA.Own w2 C (.slice A n c) nd.attrs)(hK:kI.Own w2 D (.slice A2 n2 c2) nd.kids)(hC:w.heap.size+1<C)(hD:w.heap.size+1<D)
 (hb:gA (fun k=>k=w.heap.size\/k=w.heap.size+1) w2 wf):Told w nd (.returned (.agg (XA nd A n c A2 n2 c2))) wf:=by
 have d:kA.Own wf C (.slice A n c) nd.attrs:=hA.but hb (fun g a h=>by have:=(hA.lt a).1;omega);have e:kI.Own wf D (.slice A2 n2 c2) nd.kids:=hK.but hb (fun g a h=>by have:=(hK.lt a).1;omega);obtain⟨s,b,f⟩:=nB.own d;obtain⟨j,l,m⟩:=s;simp only[Sv.val,Value.slice.injEq] at b;obtain⟨rfl,rfl,rfl⟩:=b;exact⟨_,_,_,_,_,_,rfl,f,e.dE cA,hB.trans (hb.AB (fun i _ o=>by omega) hB.size)⟩
theorem lO(nd:Nd){A A2:jA}{n c n2 c2:Nat}(w:World)(ha:nB w ⟨A,n,c⟩ nd.attrs)(hal:nd.attrs.length<=1000)(hkl:nd.kids.length<=1000)(hk:kI.Own w B (.slice A2 n2 c2) nd.kids):
 fA 49 #[.agg (XA nd A n c A2 n2 c2)] w (Told w nd):=by
 obtain⟨Q,Z,h3,R,S⟩:=qG hk rfl;have G:=ha.len;have T:=ha.cap;have H:=ha.nil;simp only at G T H;have I:n2<=1000000:=cA;have hn:n<=1000000:=cA;have HA:=Zh ha;have H1:=Zh Q;have H4:=Zh R;have H5:=Zh S;have A1:=Zh G;have A4:Hid (A=none->c=0/\n=0):=Zh (fun e=>by have:=H e;omega);clear Q Z h3 R S G T H ha hk hal hkl;go_enter func49,ntmps49;go_wp2_with fail;have y:Hid (eA w ((w.alloc (.cells (XA nd A n c A2 n2 c2) 53)).alloc (.cells QD 53))):=Zh ((Zb _ _).alloc DA _);have z:Hid (((w.alloc (.cells (XA nd A n c A2 n2 c2) 53)).alloc (.cells QD 53)).heap[w.heap.size]? = some (.cells (XA nd A n c A2 n2 c2) 53 (0,0))):=Zh (oB (heap_alloc_new w _));have C:Hid (((w.alloc (.cells (XA nd A n c A2 n2 c2) 53)).alloc (.cells QD 53)).heap[w.heap.size+1]? = some (.cells QD 53 (0,0))):=Zh (by have:=heap_alloc_new (w.alloc (.cells (XA nd A n c A2 n2 c2) 53)) (.cells QD 53);simpa using this);generalize ((w.alloc (.cells (XA nd A n c A2 n2 c2) 53)).alloc (.cells QD 53))=W at y z C|-;have m:w.heap.size<W.heap.size:=FA z;have o:w.heap.size+1<W.heap.size:=FA C;refine(bS nd.attrs A n c W A1 hn A4 (by exact((HA.below y).holds))).mono ?_;rintro e j ⟨b,d,f,rfl,U,D⟩;have J:=Zh U;have V:=Zh (y.trans (D.mono y.size));have q:Hid (j.heap[w.heap.size]? = _):=Zh ((D.block _ m).trans z);have X:Hid (j.heap[w.heap.size+1]? = _):=Zh ((D.block _ o).trans C);have d5:=IA 5 q;have d6:=IA 6 q;have f5:j.frozen? ⟨w.heap.size,5,none⟩=false:=(by have r:=q.out;simp[World.frozen?,r]);clear U D z C;go_wp2_with fail;have E:Hid ((j.setCell ⟨w.heap.size,5,none⟩ (.slice b d f)).heap[w.heap.size]? = some (.cells (XA nd b d f A2 n2 c2) 53 (0,0))):=Zh (heap_set q 5 _);have F:Hid ((j.setCell ⟨w.heap.size,5,none⟩ (.slice b d f)).heap[w.heap.size+1]? = _):=Zh ((Below.heap_setCell _ _ _ _ (by show w.heap.size+1≠w.heap.size;omega)).trans X);have s:Hid (eA w (j.setCell ⟨w.heap.size,5,none⟩ (.slice b d f))):=Zh (V.setCell (p:=⟨w.heap.size,5,none⟩) Zl _);have K:Hid (kA.Own (j.setCell ⟨w.heap.size,5,none⟩ (.slice b d f)) W.heap.size (.slice b d f) nd.attrs):=Zh (J.sB fun g hg=>Below.heap_setCell _ _ _ _ (by have:=(J.lt hg).1;show g≠w.heap.size;omega));generalize j.setCell ⟨w.heap.size,5,none⟩ (.slice b d f)=L at E F s K|-;clear d5 d6 f5 q X V J;refine(TR nd.kids A2 n2 c2 L H1 I H4 (H5.on s)).mono ?_;rintro e a ⟨M,N,O,rfl,Y,t⟩;have u:w.heap.size<L.heap.size:=FA E;have x:w.heap.size+1<L.heap.size:=FA F;have O2:=Zh Y;have OA:=Zh (K.below t Zl);have B2:=Zh (s.trans (t.mono s.size));have l:Hid (a.heap[w.heap.size]? = _):=Zh ((t.block _ u).trans E);have k:Hid (a.heap[w.heap.size+1]? = _):=Zh ((t.block _ x).trans F);have P:w.heap.size+1<a.heap.size:=FA k;have e0:=IA 0 l;have e1:=IA 1 l;have e2:=IA 2 l;have e3:=IA 3 l;have e4:=IA 4 l;have e5:=IA 5 l;have e6:=IA 6 l;have e7:=IA 7 l;have g6:a.frozen? ⟨w.heap.size,6,none⟩=false:=(by have r:=l.out;simp[World.frozen?,r]);have r0:=IA 0 k;have r1:=IA 1 k;have r2:=IA 2 k;have r3:=IA 3 k;have r4:=IA 4 k;have r5:=IA 5 k;have r6:=IA 6 k;have r7:=IA 7 k
 have rf:∀i,a.frozen? ⟨w.heap.size+1,i,none⟩=false:=fun i=>by have r:=k.out;simp[World.frozen?,r]
 clear Y t E F s K u m;go_wp2_with fail;refine bodyPost_ret (v:=.agg (XA nd b d f M N O)) (by simp[results,results49,go_sem,e0,e1,e2,e3,e4,e5,e6,e7,r0,r1,r2,r3,r4,r5,r6,r7,P]) rfl ?_;refine Um B2 OA O2 o x ?_;exact gA.setCell (gA.setCell (gA.setCell (gA.setCell (gA.setCell (gA.setCell (gA.setCell (gA.setCell (gA.setCell (gA.refl _ _) (fun _=> .inl rfl) _) (fun _=> .inr rfl) _) (fun _=> .inr rfl) _) (fun _=> .inr rfl) _) (fun _=> .inr rfl) _) (fun _=> .inr rfl) _) (fun _=> .inr rfl) _) (fun _=> .inr rfl) _) (fun _=> .inr rfl) _
theorem EA{a w:World}{g i:Nat}{u:Value}(h:gA (fun k=>k=g) a w):gA (fun k=>k=g) a (w.setCell (dA g i) u):=gA.setCell h (fun _=>rfl) u
theorem FG{w w2 wf:World}(hB:eA w w2)(hb:gA (fun k=>k=w.heap.size) w2 wf):eA w wf:=hB.trans (hb.AB (fun i _ a=>by omega) hB.size)
theorem Y7(y:Int)(w:World)(hy:lA x.l y=false)(h:Dc w B p x):fA 19 #[iA p,aA y] w fun e w'=>e= .returned (.tuple #[.agg QD,.bool false])/\eA w w':=by
 have H:=Zh h;have f:=Zh hy;have u:=h.c0;have g:=h.lt (.inl rfl:UC p x p);clear h hy;go_enter func19,ntmps19;go_wp2_with fail;refine(jQ y _ (by rw[H.out.UN];exact f) (H.alloc _).ar).mono ?_;rintro e b ⟨rfl,c⟩;have j:=Zh ((((Below.refl _ w).alloc Zl _)).trans (c.mono DA));have a:Hid (b.heap[w.heap.size]? = some (.cells QD 53 (0,0))):=Zh ((c.block _ DA).trans (heap_alloc_new w _));have d:w.heap.size<b.heap.size:=FA a;have k:=IA 0 a;have l:=IA 1 a;have m:=IA 2 a;have n:=IA 3 a;have o:=IA 4 a;have q:=IA 5 a;have r:=IA 6 a;have s:=IA 7 a;have z:∀i,b.frozen? ⟨w.heap.size,i,none⟩=false:=fun i=>by have t:=a.out;simp[World.frozen?,t]
 clear c;go_wp2_with fail;refine bodyPost_ret (v:=.tuple #[.agg QD,.bool false]) (by simp[results,results19,go_sem,k,l,m,n,o,q,r,s,d]) rfl ⟨rfl,FG j ?_⟩;exact EA (EA (EA (EA (EA (EA (EA (EA (gA.refl _ _))))))))
def jR(w:World)(nd:Nd)(e:Ending)(w':World):Prop:=
 ∃A n c A2 n2 c2,e= .returned (.tuple #[.agg (XA nd A n c A2 n2 c2),.bool true])/\nB w' ⟨A,n,c⟩ nd.attrs/\kI.Own w' w.heap.size (.slice A2 n2 c2) nd.kids/\eA w w'
theorem vZ{w w2 wf:World}{nd:Nd}{A A2:jA}{n c n2 c2:Nat}{D:Nat}(hB:eA w w2)(hD:w.heap.size<D)(hA:nB w2 ⟨A,n,c⟩ nd.attrs)(hK:kI.Own w2 D (.slice A2 n2 c2) nd.kids)
 (hz:∃cur,w2.heap[w.heap.size]? = some (.cells cur 53 (0,0))) (hb:gA (fun k=>k=w.heap.size) w2 wf):jR w nd (.returned (.tuple #[.agg (XA nd A n c A2 n2 c2),.bool true])) wf:=by
 obtain⟨cur,a⟩:=hz;refine⟨_,_,_,_,_,_,rfl,hA.but hb ?_,(hK.but hb (fun g b e=>by have:=(hK.lt b).1;omega)).dE cA,FG hB hb⟩;rintro k c f rfl d;exact RA a d nA rfl
theorem XP(y:Int){k:Nat}{nd:Nd}(w:World)(hk:k<x.rs.length)(hy:x.rs[k].nd.id=y)(hn:x.rs[k].nd=nd)(hal:nd.attrs.length<=1000)(hkl:nd.kids.length<=1000)(h:Dc w B p x):
 fA 19 #[iA p,aA y] w (jR w nd):=by
 have H:=Zh h;have j:=h.nd hk;obtain⟨b,s⟩:=qA (x.rs[k].b);have R:=Zh hy;have S:=Zh s;have c0:=h.c0;have T:=h.lt (.inl rfl:UC p x p);have N:Hid (∃A n c z C D,w.heap[b]? = some (.cells #[aA nd.id,aA nd.par,bA nd.tag,bA nd.txt,bA nd.key,.slice A n c,.slice z C D,aA nd.note] 53 (0,0))/\nB w ⟨A,n,c⟩ nd.attrs/\kI.Own w B (.slice z C D) nd.kids):=Zh (by
  subst hn;subst s;exact⟨_,_,_,_,_,_,j.mA,j.mB,j.kids⟩)
 obtain⟨A,n,c,z,C,D,m,o,g⟩:=N.out;have O:=Zh m;have U:=Zh o;have V:=Zh g;clear h hy hn s j N m o g;go_enter func19,ntmps19;go_wp2_with fail;refine(xJ y k (x:=b) _ (l:=x.rs.map eC) (by simpa using hk) (by simp[eC,R.out]) (by simp[eC,S.out]) (H.out.alloc _).ar).mono ?_;rintro e d ⟨rfl,E⟩;have t:=Zh ((((Below.refl _ w).alloc Zl (.cells #[aA 0,aA 0,bA ⟨#[]⟩,bA ⟨#[]⟩,bA ⟨#[]⟩,.slice none 0 0,.slice none 0 0,aA 0] 53))).trans (E.mono (by simp)));have q:Hid (d.heap[b]? = _):=Zh ((t.out.block b (FA O.out)).trans O.out);have r:Hid (d.heap[w.heap.size]? = some (.cells #[aA 0,aA 0,bA ⟨#[]⟩,bA ⟨#[]⟩,bA ⟨#[]⟩,.slice none 0 0,.slice none 0 0,aA 0] 53 (0,0))):=Zh ((E.block _ (by simp)).trans (heap_alloc_new w _));have u:w.heap.size<d.heap.size:=FA r.out;have e0:d.cell? (dA b 0)=some (aA nd.id):=cell_of_row d _ 0 _ _ (0,0) q.out;have W:d.cell? (dA b 1)=some (aA nd.par):=cell_of_row d _ 1 _ _ (0,0) q.out;have X:d.cell? (dA b 2)=some (bA nd.tag):=cell_of_row d _ 2 _ _ (0,0) q.out;have Y:d.cell? (dA b 3)=some (bA nd.txt):=cell_of_row d _ 3 _ _ (0,0) q.out;have Z:d.cell? (dA b 4)=some (bA nd.key):=cell_of_row d _ 4 _ _ (0,0) q.out;have e5:d.cell? (dA b 5)=some (.slice A n c):=cell_of_row d _ 5 _ _ (0,0) q.out;have e6:d.cell? (dA b 6)=some (.slice z C D):=cell_of_row d _ 6 _ _ (0,0) q.out;have e7:d.cell? (dA b 7)=some (aA nd.note):=cell_of_row d _ 7 _ _ (0,0) q.out;clear E;go_wp2_with fail;refine(lO (B:=B) nd d (U.out.below t.out) hal hkl (V.out.below t.out Zl)).mono ?_;rintro e f ⟨A',n',c',F,G,I,rfl,P,Q,J⟩;have B2:=Zh (t.out.trans (J.mono t.out.size));have a:Hid (f.heap[w.heap.size]? = some (.cells #[aA 0,aA 0,bA ⟨#[]⟩,bA ⟨#[]⟩,bA ⟨#[]⟩,.slice none 0 0,.slice none 0 0,aA 0] 53 (0,0))):=Zh ((J.block _ u).trans r.out);have K:=Zh P;have L:=Zh Q;have M:w.heap.size<f.heap.size:=FA a.out;have r0:f.cell? ⟨w.heap.size,0,none⟩=some (aA 0):=cell_of_row f _ 0 _ _ (0,0) a.out;have r1:f.cell? ⟨w.heap.size,1,none⟩=some (aA 0):=cell_of_row f _ 1 _ _ (0,0) a.out;have r2:f.cell? ⟨w.heap.size,2,none⟩=some (bA ⟨#[]⟩):=cell_of_row f _ 2 _ _ (0,0) a.out;have r3:f.cell? ⟨w.heap.size,3,none⟩=some (bA ⟨#[]⟩):=cell_of_row f _ 3 _ _ (0,0) a.out;have r4:f.cell? ⟨w.heap.size,4,none⟩=some (bA ⟨#[]⟩):=cell_of_row f _ 4 _ _ (0,0) a.out;have r5:f.cell? ⟨w.heap.size,5,none⟩=some (.slice none 0 0):=cell_of_row f _ 5 _ _ (0,0) a.out;have r6:f.cell? ⟨w.heap.size,6,none⟩=some (.slice none 0 0):=cell_of_row f _ 6 _ _ (0,0) a.out;have r7:f.cell? ⟨w.heap.size,7,none⟩=some (aA 0):=cell_of_row f _ 7 _ _ (0,0) a.out;have rf:∀i,f.frozen? ⟨w.heap.size,i,none⟩=false:=fun i=>by have s:=a.out;simp[World.frozen?,s]
 clear P Q J e0 W X Y Z e5 e6 e7;go_wp2_with fail;refine bodyPost_ret (v:=.tuple #[.agg #[aA nd.id,aA nd.par,bA nd.tag,bA nd.txt,bA nd.key,.slice A' n' c',.slice F G I,aA nd.note],.bool true]) (by simp[results,results19,go_sem,r0,r1,r2,r3,r4,r5,r6,r7,M]) rfl ?_;refine vZ B2.out u K.out L.out ⟨_,a.out⟩ ?_;exact EA (EA (EA (EA (EA (EA (EA (EA (gA.refl _ _))))))))
end P5
namespace P5
open Go.RowKit Kd
def UA(c:Int):Value:=if c=0 then .nilIface else .iface 56 (aA c)
end P5
namespace P5
open Go.RowKit Kd P4
variable{B p:Nat}{x:Dx}
theorem Dc.re{w w':World}(h:Dc w B p x){v' vi':Value}{n' foc':Int}{rs':List Rw}
 (hb:gA (fun g=>g=p\/eF x.a x.v g\/x.vi.ownBlock=some g) w w')
 (mA:w'.heap[p]? = some (.cells #[iA x.a,vi',aA foc'] 69 (0,0)))
 (ar:SC w' B x.a x.R n' v' (rs'.map eC)) (ids:kI.Own w' B vi' (WA (rs'.map (·.nd))))
 (hv:∀g,v'.ownBlock=some g->x.v.ownBlock=some g\/w.heap.size<=g) (hvi:∀g,vi'.ownBlock=some g->x.vi.ownBlock=some g\/w.heap.size<=g)
 (nodes:∀r∈rs',r∈x.rs\/cF w' B r/\w.heap.size<=r.b/\(∀g,r.vk.val.ownBlock=some g->w.heap.size<=g)/\gE vi' r.vk.val)
 (pw:rs'.Pairwise fun r s=>r.b≠s.b/\gE r.vk.val s.vk.val):oC w B p x ⟨x.a,v',vi',x.R,n',foc',rs'⟩ w':=by
 have l:∀g,(g=p\/eF x.a x.v g\/x.vi.ownBlock=some g)->UC p x g:=by
  rintro g (e|(e|e)|e)
  ·exact .inl e
  ·exact .inr (.inl e)
  ·exact .inr (.inr (.inl e))
  ·exact .inr (.inr (.inr (.inl e)))
 have j:qD w (fun g=>g=p\/eF x.a x.v g\/x.vi.ownBlock=some g):=fun g c f a=>h.eD g c f (l g a)
 have m:∀r∈x.rs,w'.heap[r.b]? = w.heap[r.b]?:=by
  intro r b;have i:=h.nodes r b;refine hb.block _ i.lt ?_;rintro(e|e|e)
  ·exact RA i.mA (e▸h.mA) nA rfl
  ·exact h.ar.other i.mA nA nA e
  ·obtain⟨d,n⟩:=h.ids.ty e;exact RA i.mA n nA rfl
 have o:∀r∈x.rs,∀g,r.vk.val.ownBlock=some g->w'.heap[g]? = w.heap[g]?:=by
  intro r b g a;have i:=h.nodes r b;obtain⟨c,k⟩:=i.kids.ty a;refine hb.block _ (FA k) ?_;rintro(e|e|e)
  ·exact RA k (e▸h.mA) nA rfl
  ·exact h.ar.other k nA nA e
  ·exact h.RJ r b g e a
 refine⟨⟨mA,h.base,ar,ids,fun r b=>?_,fun r b=>?_,pw⟩,hb.mono fun g _ a=>l g a,fun g a=>?_⟩
 ·rcases nodes r b with h1|h1
  ·exact(h.nodes r h1).sB (m r h1) (o r h1) ((h.nodes r h1).mB.but hb j)
  ·exact h1.1
 ·rcases nodes r b with h1|h1
  ·intro g a e;rcases hvi g a with e2|e2
   ·exact h.RJ r h1 g e2 e
   ·have:=((h.nodes r h1).kids.lt e).2;omega
  ·exact h1.2.2.2
 ·rcases a with e|e|e|e|⟨r,b,e⟩
  ·exact .inl (.inl e)
  ·exact .inl (.inr (.inl e))
  ·rcases hv g e with e2|e2
   ·exact .inl (.inr (.inr (.inl e2)))
   ·exact .inr e2
  ·rcases hvi g e with e2|e2
   ·exact .inl (.inr (.inr (.inr (.inl e2))))
   ·exact .inr e2
  ·rcases nodes r b with h1|h1
   ·exact .inl (.inr (.inr (.inr (.inr ⟨r,h1,e⟩))))
   ·rcases e with e|e
    ·exact .inr (by rw[e];exact h1.2.1)
    ·exact .inr (h1.2.2.1 g e)
theorem Dc.RU{w:World}(h:Dc w B p x)(i:Int):oC w B p x {x with foc:=i} (w.setCell (dA p 2) (aA i)):=by
 have c:gA (fun g=>g=p\/eF x.a x.v g\/x.vi.ownBlock=some g) w (w.setCell (dA p 2) (aA i)):=gA.setCell (gA.refl _ _) (fun _=> .inl rfl) _;refine h.re (v':=x.v) (vi':=x.vi) (n':=x.n) (foc':=i) (rs':=x.rs) c (heap_set h.mA 2 _) ?_ ?_ (fun g a=> .inl a) (fun g a=> .inl a) (fun r e=> .inl e) h.pw
 ·refine h.ar.sB (Below.heap_setCell _ _ _ _ (RA h.ar.mA h.mA nA)) (fun g a=>Below.heap_setCell _ _ _ _ ?_);rintro rfl;obtain⟨d,b⟩:=h.ar.own.ty a;exact RA b h.mA nA rfl
 ·refine h.ids.sB (fun g a=>Below.heap_setCell _ _ _ _ ?_);rintro rfl;obtain⟨d,b⟩:=h.ids.ty a;exact RA b h.mA nA rfl
theorem pQ{w:World}{C g:Nat}{v:Value}{l:List Int}{cur:Array Value}{t:TypeId}{fr:Nat×Nat}(h:kI.Own w C v l)(hg:w.heap[g]? = some (.cells cur t fr))(ht:t≠3):some g≠v.ownBlock:=fun e=>by
 obtain⟨d,a⟩:=h.ty e.symm;exact RA hg a ht rfl
def Made(w:World)(B p:Nat)(x:Dx)(r:Value)(d:D)(e:Ending)(w':World):Prop:=e= .returned r/\∃x',oC w B p x x' w'/\x'.d=d
theorem Made.same{w w':World}{r r':Value}{d:D}(h:Dc w B p x)(hb:eA w w')(hr:r=r')(hd:x.d=d):Made w B p x r' d (.returned r) w':=⟨by rw[hr],x,oC.sC h hb,hd⟩
variable{B p:Nat}{x:Dx}
theorem ed(i:Int)(w:World)(h:Dc w B p x):fA 7 #[iA p,aA i] w (Made w B p x (UA (vE x.d i).1) (vE x.d i).2):=by
 have H:=Zh h;have j:=h.c2;have k:=h.frozen 2;by_cases a:i=0
 ·have l:(i != 0)=false:=(by simp[a]);have c:Hid (vE x.d i=(0,{x.d with foc:=i})):=Zh (by unfold vE;rw[if_neg (by simp[a])]);clear h a;go_enter func7,ntmps7;go_wp2_with fail;go_ret;rw[c.out];exact⟨rfl,_,H.RU i,rfl⟩
 ·have l:(i != 0)=true:=(by simp[a]);cases hh:lA x.l i with
  |false=>
   have d:=Zh hh;have c:Hid (vE x.d i=(2,x.d)):=Zh (by unfold vE;rw[if_pos ⟨a,hh⟩]);clear h a hh;go_enter func7,ntmps7;go_wp2_with fail;refine(xC i w d H).mono ?_;rintro e m ⟨rfl,b⟩;have f:=Zh b;clear b;go_wp2_with fail;go_ret;rw[c.out];exact Made.same H f rfl rfl
  |true=>
   have d:=Zh hh;have c:Hid (vE x.d i=(0,{x.d with foc:=i})):=Zh (by unfold vE;rw[if_neg (by rintro⟨_,e⟩;rw[show x.d.l=x.l from rfl,hh] at e;cases e)]);clear h a hh;go_enter func7,ntmps7;go_wp2_with fail;refine(xC i w d H).mono ?_;rintro e m ⟨rfl,b⟩;have f:=Zh b;have g:=Zh (H.below b);have n:=g.c2;have o:=g.frozen 2;clear b j k;go_wp2_with fail;go_ret;rw[c.out];exact⟨rfl,_,(oC.sC H f).trans (g.RU i),rfl⟩
theorem cY{w:World}{i:Int}(h:Dc w B p x)(hh:lA x.l i=true):∃k,∃hk:k<x.rs.length,x.rs[k].nd.id=i/\∀(f:Nd->Nd) (r:Rw),r.nd=f x.rs[k].nd->(x.put k r).d = {x.d with l:=iB x.d.l i f}:=by
 obtain⟨k,hk,a,_⟩:=h.place hh;refine⟨k,hk,a,fun f r b=>?_⟩;have:=JO h hk b;rw[a] at this;show D.mk (x.put k r).l _ _ _=D.mk _ _ _ _;rw[this];rfl
theorem gF{w:World}{k:Nat}{i:Int}(h:Dc w B p x)(hk:k<x.rs.length)(hy:x.rs[k].nd.id=i):MA x.l i=x.rs[k].nd.tag/\yA x.l i=x.rs[k].nd.par/\xA x.l i=x.rs[k].nd.kids:=by
 have b:x.rs[k].nd∈x.l:=List.mem_map.2 ⟨x.rs[k],List.getElem_mem hk,rfl⟩;have a:=h.VC.find b;rw[hy] at a;unfold MA yA xA;rw[a];exact⟨rfl,rfl,rfl⟩
theorem Dd(i:Int)(t:wA)(w:World)(ht:t.size<=maxLen)(h:Dc w B p x):fA 142 #[iA p,aA i,bA t] w (Made w B p x (UA (GD x.d i t).1) (GD x.d i t).2):=by
 have H:=Zh h;have K:=h.c0;cases hh:lA x.l i with
 |false=>
  have G:=Zh hh;have o:Hid (GD x.d i t=(2,x.d)):=Zh (by unfold GD;rw[if_pos (show lA x.d.l i=false from hh)]);clear h hh;go_enter func142,ntmps142;go_wp2_with fail;refine(jQ i w (by rw[H.out.UN];exact G) H.ar).mono ?_;rintro e j ⟨rfl,c⟩;have q:=Zh c;clear c;go_wp2_with fail;go_ret;rw[o.out];exact Made.same H q rfl rfl
 |true=>
  obtain⟨k,d,v,z⟩:=cY h hh;have a:=(gF h d v).1;obtain⟨tg,f⟩:=qA (x.rs[k].nd.tag);rw[f] at a;have C:=Zh v;have I:=Zh z;have s:=Zh f;obtain⟨b,A⟩:=qA (x.rs[k].b);have m:=Zh A;have n:x.d.l=x.l:=rfl;cases he:tg.toList.isEmpty with
  |false=>
   have g:¬tg.toList=[]:=(by rw[<-List.isEmpty_iff];simp[he]);have J:tg.toList.isEmpty=false:=he;have o:Hid (GD x.d i t=(3,x.d)):=Zh (by unfold GD;rw[if_neg (by rw[n,hh];simp),if_pos (by rw[n,a];exact g)]);clear h hh v z A a f he n;go_enter func142,ntmps142;go_wp2_with fail;refine(xJ i k (x:=b) w (l:=x.rs.map eC) (by simpa using d) (by simp[eC,C.out]) (by simp[eC,m.out]) H.ar).mono ?_;rintro e j ⟨rfl,c⟩;have q:=Zh c;have E:j.cell? (dA b 2)=some (bA tg):=(by have:=((H.below c).nd d).c2;rwa[m.out,s.out] at this);clear c;go_wp2_with fail;go_ret;rw[o.out];exact Made.same H q rfl rfl
  |true=>
   have g:tg.toList=[]:=(by rw[<-List.isEmpty_iff];exact he);have L:=Zh g;have J:tg.toList.isEmpty=true:=he;cases hm:P1.YB t.data.toList with
   |false=>
    have o:Hid (GD x.d i t=(1,x.d)):=Zh (by unfold GD;rw[if_neg (by rw[n,hh];simp),if_neg (by rw[n,a];simpa using g),if_pos hm]);have D:=Zh hm;clear h hh v z A a f he n hm;go_enter func142,ntmps142;go_wp2_with fail;refine(xJ i k (x:=b) w (l:=x.rs.map eC) (by simpa using d) (by simp[eC,C.out]) (by simp[eC,m.out]) H.ar).mono ?_;rintro e j ⟨rfl,c⟩;have q:=Zh c;have E:j.cell? (dA b 2)=some (bA tg):=(by have:=((H.below c).nd d).c2;rwa[m.out,s.out] at this);clear c;go_wp2_with fail;refine zA (P3.rH t j D ht) ?_;go_wp2_with fail;go_ret;rw[o.out];exact Made.same H q rfl rfl
   |true=>
    have o:Hid (GD x.d i t=(0,{x.d with l:=iB x.d.l i (tH t)})):=Zh (by unfold GD;rw[if_neg (by rw[n,hh];simp),if_neg (by rw[n,a];simpa using g),if_neg (by simp[hm])]);have D:=Zh hm;clear h hh v z A a f he n hm;go_enter func142,ntmps142;go_wp2_with fail;refine(xJ i k (x:=b) w (l:=x.rs.map eC) (by simpa using d) (by simp[eC,C.out]) (by simp[eC,m.out]) H.ar).mono ?_;rintro e j ⟨rfl,c⟩;have q:=Zh c;have y:=Zh (H.below c);have E:j.cell? (dA b 2)=some (bA tg):=(by have:=(y.nd d).c2;rwa[m.out,s.out] at this);have M:j.cell? (dA b 3)=some (bA x.rs[k].nd.txt):=(by have:=(y.nd d).c3;rwa[m.out] at this);have N:j.frozen? (dA b 3)=false:=(by have:=(y.nd d).frozen 3;rwa[m.out] at this);clear c;go_wp2_with fail;refine zA (P3.rH t j D ht) ?_;go_wp2_with fail;go_ret;rw[o.out];have F:=y.gR d (r:=⟨x.rs[k].b,x.rs[k].va,x.rs[k].vk,tH t x.rs[k].nd⟩) rfl rfl rfl rfl (y.nd d).mB (i:=3) (u:=bA t) rfl;rw[m.out] at F;exact⟨rfl,_,(oC.sC H q).trans F,I (tH t) _ rfl⟩
variable{B p:Nat}{x:Dx}
structure rK(w:World)(A:jA)(n c:Nat)(l:List P3.At):Prop where
 len:l.length=n
 cap:n<=c
 nil:A=none->c=0
 SB:n<=1000000
 wf:P3.Wf l
 holds:kA.pA w w.heap.size A l
theorem rK.below{w w':World}{A:jA}{n c:Nat}{l:List P3.At}(h:rK w A n c l)(hb:eA w w'):rK w' A n c l:=⟨h.len,h.cap,h.nil,h.SB,h.wf,h.holds.on hb⟩
theorem Ma(l:List P3.At)(A:jA)(n c:Nat){r:Bool}(w:World)(hr:P3.bC l=r)(h:rK w A n c l):
 fA 116 #[.slice A n c] w fun e w'=>e= .returned (.bool r)/\eA w w':=by
 subst hr;exact P3.ZN l A n c w h.len h.SB h.cap h.wf (UE h.holds)
theorem jd(i:Int)(A:jA)(n c:Nat)(l:List P3.At)(w:World)(hl:rK w A n c l)(h:Dc w B p x):fA 141 #[iA p,aA i,.slice A n c] w (Made w B p x (UA (fD x.d i l).1) (fD x.d i l).2):=by
 have H:=Zh h;have N:=Zh hl;have c0:=h.c0;clear hl;cases hh:lA x.l i with
 |false=>
  have W:=Zh hh;have v:Hid (fD x.d i l=(2,x.d)):=Zh (by unfold fD;rw[if_pos (show lA x.d.l i=false from hh)]);clear h hh;go_enter func141,ntmps141;go_wp2_with fail;refine(jQ i w (by rw[H.out.UN];exact W) H.ar).mono ?_;rintro e t ⟨rfl,d⟩;have o:=Zh d;clear d;go_wp2_with fail;go_ret;rw[v.out];exact Made.same H o rfl rfl
 |true=>
  obtain⟨k,m,D,E⟩:=cY h hh;have a:=(gF h m D).1;obtain⟨tg,g⟩:=qA (x.rs[k].nd.tag);rw[g] at a;have I:=Zh D;have X:=Zh E;have y:=Zh g;obtain⟨b,F⟩:=qA (x.rs[k].b);have q:=Zh F;have hl:x.d.l=x.l:=rfl;cases he:tg.toList.isEmpty with
  |true=>
   have f:tg.toList=[]:=(by rw[<-List.isEmpty_iff];exact he);have Y:tg.toList.isEmpty=true:=he;have v:Hid (fD x.d i l=(3,x.d)):=Zh (by unfold fD;rw[if_neg (by rw[hl,hh];simp),if_pos (by rw[hl,a];exact f)]);clear h hh D E F a g he hl f;go_enter func141,ntmps141;go_wp2_with fail;refine(xJ i k (x:=b) w (l:=x.rs.map eC) (by simpa using m) (by simp[eC,I.out]) (by simp[eC,q.out]) H.ar).mono ?_;rintro e t ⟨rfl,d⟩;have o:=Zh d;have C:=Zh (H.below d);have J:t.cell? (dA b 2)=some (bA tg):=(by have:=(C.nd m).c2;rwa[q.out,y.out] at this);clear d;go_wp2_with fail;go_ret;rw[v.out];exact Made.same H o rfl rfl
  |false=>
   have f:¬tg.toList=[]:=(by rw[<-List.isEmpty_iff];simp[he]);have Y:tg.toList.isEmpty=false:=he;cases hm:P3.bC l with
   |false=>
    have v:Hid (fD x.d i l=(1,x.d)):=Zh (by unfold fD;rw[if_neg (by rw[hl,hh];simp),if_neg (by rw[hl,a];exact f),if_pos hm]);have K:=Zh hm;clear h hh D E F a g he hl hm f;go_enter func141,ntmps141;go_wp2_with fail;refine(xJ i k (x:=b) w (l:=x.rs.map eC) (by simpa using m) (by simp[eC,I.out]) (by simp[eC,q.out]) H.ar).mono ?_;rintro e t ⟨rfl,d⟩;have o:=Zh d;have C:=Zh (H.below d);have J:t.cell? (dA b 2)=some (bA tg):=(by have:=(C.nd m).c2;rwa[q.out,y.out] at this);have s:=Zh (N.below d);clear d;go_wp2_with fail;refine(Ma l A n c t K s).mono ?_;rintro e O ⟨rfl,z⟩;have G:=Zh (o.trans (z.mono o.size));clear z;go_wp2_with fail;go_ret;rw[v.out];exact Made.same H G rfl rfl
   |true=>
    have v:Hid (fD x.d i l=(0,{x.d with l:=iB x.d.l i (gH l)})):=Zh (by unfold fD;rw[if_neg (by rw[hl,hh];simp),if_neg (by rw[hl,a];exact f),if_neg (by simp[hm])]);have K:=Zh hm;clear h hh D E F a g he hl hm f;go_enter func141,ntmps141;go_wp2_with fail;refine(xJ i k (x:=b) w (l:=x.rs.map eC) (by simpa using m) (by simp[eC,I.out]) (by simp[eC,q.out]) H.ar).mono ?_;rintro e t ⟨rfl,d⟩;have o:=Zh d;have C:=Zh (H.below d);have J:t.cell? (dA b 2)=some (bA tg):=(by have:=(C.nd m).c2;rwa[q.out,y.out] at this);have s:=Zh (N.below d);clear d;go_wp2_with fail;refine(Ma l A n c t K s).mono ?_;rintro e O ⟨rfl,z⟩;have G:=Zh (o.trans (z.mono o.size));have j:=Zh (s.below z);have Z:=Zh (C.below z);clear z J;go_wp2_with fail;refine(bS l A n c O j.len j.SB (fun e=>by have:=j.nil e;have:=j.cap;omega) j.holds).mono ?_;rintro e P ⟨Q,R,S,rfl,T,L⟩;have B3:=Zh (G.trans (L.mono G.size));have M:=Zh (Z.below L);have O3:=Zh T;have d5:P.cell? (dA b 5)=some x.rs[k].va.val:=(by have:=(M.nd m).c5;rwa[q.out] at this);have g5:P.frozen? (dA b 5)=false:=(by have:=(M.nd m).frozen 5;rwa[q.out] at this);clear L T;go_wp2_with fail;go_ret;rw[v.out];obtain⟨⟨sA,sn,sc⟩,U,ha⟩:=nB.own O3;simp only[Sv.val,Value.slice.injEq] at U;obtain⟨rfl,rfl,rfl⟩:=U;have V:=M.gR m (r:=⟨x.rs[k].b,⟨Q,R,S⟩,x.rs[k].vk,gH l x.rs[k].nd⟩) rfl rfl rfl rfl ha (i:=5) (u:=.slice Q R S) rfl;rw[q.out] at V;exact⟨rfl,_,(oC.sC H B3).trans V,X (gH l) _ rfl⟩
open Classical in
noncomputable def KO (P:Int->Int) (y:Int):Nat:=if h:∃k,dH P y k then Classical.choose h else 0
theorem uj{P:Int->Int}{y:Int}{i j:Nat}(hi:dH P y i)(hj:dH P y j):i=j:=by
 rcases Nat.lt_trichotomy i j with h|h|h
 ·exact absurd hi.1 (hj.2 i h)
 ·exact h
 ·exact absurd hj.1 (hi.2 j h)
theorem wZ{P:Int->Int}{y:Int}{k:Nat}(h:dH P y k):KO P y=k:=by
 have hx:∃k,dH P y k:=⟨k,h⟩;unfold KO;rw[dif_pos hx];exact uj (Classical.choose_spec hx) h
theorem wj{l:List Nd}(h:Tr (fun y=>lA l y=true) (yA l) (xA l)){y:Int}(hy:y≠0):KO (yA l) (yA l y)<KO (yA l) y:=by
 obtain⟨k,a⟩:=h.dep y;rw[wZ a];cases k with
 |zero=>exact absurd a.1 hy
 |succ k=>
  have:dH (yA l) (yA l y) k:=⟨a.1,fun i b=>a.2 (i+1) cA⟩;rw[wZ this];omega
theorem Fe{l:List Nd}(h:Tr (fun y=>lA l y=true) (yA l) (xA l)){a b:Int}{j:Nat}(ha:lA l a=true)(hb:b≠0)(hj:it (yA l) j a=b):inside l a b=true:=by
 obtain⟨k,c⟩:=h.dep a;have d:=h.KQ (L:=WA l) (fun y f=>vG.1 f) ha c;have e:j<k:=by
  rcases Nat.lt_or_ge j k with hlt|hge
  ·exact hlt
  ·exact absurd (hj.symm.trans (h.FO c.1 hge)) hb
 unfold inside uE;rw[decide_eq_true_iff,<-hj];simp only[WA,List.length_map] at d;exact h.iV _ a k j ha c e cA
theorem yg{l:List Nd}(h:Tr (fun y=>lA l y=true) (yA l) (xA l)){a b:Int}{j:Nat}(hj:it (yA l) j a=0)(hn:∀m,m<j->it (yA l) m a≠b):inside l a b=false:=by
 unfold inside uE;rw[decide_eq_false_iff_not];intro e;obtain⟨m,c,d⟩:=fR _ _ _ e;rcases Nat.lt_or_ge m j with hlt|hge
 ·exact hn m hlt c
 ·rw[h.FO hj hge] at c;subst c;exact h.z d
theorem Ge(a b:Int)(w:World)(hwf:WF x.d)(ha:lA x.l a=true)(hb:lA x.l b=true)(h:Dc w B p x):fA 167 #[iA p,aA a,aA b] w fun e w'=>e= .returned (.bool (inside x.l a b))/\eA w w':=by
 have H:=Zh h;have r:Hid (Tr (fun y=>lA x.l y=true) (yA x.l) (xA x.l)):=Zh hwf.tr;have A:=Zh ha;have J:1<=b:=(hwf.pos hb).1;clear h hwf ha hb;go_enter func167,ntmps167;go_wp2_with fail;go_loopw [1] (fun i wr=>∃(c:Int) (j:Nat),i = aA c/\Hid (it (yA x.l) j a=c)/\Hid (∀m,m<j->it (yA x.l) m a≠b)/\Hid (eA w wr)) (fun i _=>KO (yA x.l) (intOf i))
 case atStart=>exact⟨a,0,rfl,Zh rfl,Zh (fun m C=>absurd C cA),Zh Ze⟩
 case round=>
  obtain⟨c,j,rfl,n,D,g⟩:=hrel;by_cases l:c=0
  ·subst l;have Q:((0:Int)==b)=false:=beq_eq_false_iff_ne.2 cA;go_wp2_with fail;go_ret;exact⟨MB (yg r n D).symm,g⟩
  ·have K:(c != 0)=true:=(by simpa using l);by_cases f:c=b
   ·have s:(c != b)=false:=(by simpa using f);have L:(c==b)=true:=(by simpa using f);have M:Hid (inside x.l a b=true):=Zh (Fe r A cA (n.trans f));clear f l;go_wp2_with fail;go_ret;exact⟨MB M.symm,g⟩
   ·have s:(c != b)=true:=(by simpa using f);have d:lA x.l c=true:=by
     have E:=n.out;have:=r.Tb A j (by rw[E];exact l);rwa[E] at this
    have t:=Zh (H.below g);obtain⟨k,u,F,_⟩:=t.place d;obtain⟨nb,o⟩:=qA (x.rs[k].b);have G:=Zh F;have q:=Zh o;have R:w.heap.size<=wr.heap.size:=g.size;have N:=Zh l;have v:=Zh f;clear F o d l f;go_wp2_with fail;refine(VF c _ u G q t).mono ?_;rintro e O ⟨rfl,z⟩;have P:=Zh (g.trans (z.mono g.size));have S:O.cell? (dA nb 1)=some (aA (yA x.l c)):=by
     have I:=t.below z;have:=(I.nd u).c1;rw[q.out] at this;rw[(gF I u G.out).2.1];exact this
    clear z;go_wp2_with fail;go_roundw
    case rel=>
     refine⟨_,j+1,rfl,Zh (by rw[UF,n.out]),Zh (fun m C=>?_),P⟩;by_cases e:m=j
     ·subst e;rw[n.out];exact v
     ·exact D m cA
    case measure=>exact wj r N
variable{B p:Nat}{x:Dx}
theorem cT{k:Nat}(hk:k<x.rs.length){r:Rw}(hb:r.b=x.rs[k].b)(hid:r.nd.id=x.rs[k].nd.id):(x.put k r).rs.map eC=x.rs.map eC:=by
 show(x.rs.set k r).map eC=x.rs.map eC;apply List.ext_getElem
 ·simp
 ·intro j a c;simp only[List.getElem_map,List.getElem_set];split
  ·rename_i e;subst e;simp[eC,hb,hid]
  ·rfl
theorem zg{k m:Nat}(hk:k<x.rs.length){r:Rw}(hne:m≠k):∃h1:k<(x.put m r).rs.length,(x.put m r).rs[k]=x.rs[k]:=by
 refine⟨by show k<(x.rs.set m r).length;simpa using hk,?_⟩;show(x.rs.set m r)[k]'(by simpa using hk)=x.rs[k];exact List.getElem_set_ne hne _
theorem YP{rs rs':List Rw}(h:rs'.map eC=rs.map eC){k:Nat}(hk:k<rs.length):∃h1:k<rs'.length,rs'[k].nd.id=rs[k].nd.id/\rs'[k].b=rs[k].b:=by
 have a:rs'.length=rs.length:=(by simpa using congrArg List.length h);have h1:k<rs'.length:=cA;refine⟨h1,?_⟩;have e:=congrArg (fun l=>l[k]?) h;simp only[List.getElem?_map,List.getElem?_eq_getElem hk,List.getElem?_eq_getElem h1,Option.map_some,Option.some.injEq] at e;unfold eC at e;injection e with e1 e2;exact⟨e1,e2⟩
def Left(w:World)(B p:Nat)(x:Dx)(i:Int)(e:Ending)(w':World):Prop:=
 e= .returned (.tuple #[])/\∃rs':List Rw,oC w B p x {x with rs:=rs'} w'/\rs'.map (·.nd)=QA x.l i/\rs'.map eC=x.rs.map eC
theorem Ag{w2 w3:World}{i q:Int}{k m:Nat}(H2:Dc w2 B p x)(hk:k<x.rs.length)(hm:m<x.rs.length)(hne:m≠k)(hy:x.rs[k].nd.id=i)(hym:x.rs[m].nd.id=q)
 (hE:QA x.l i=iB (iB x.l q (ZC (less i))) i (rD 0)) {A3:jA} {n3 c3:Nat} (hb:gA (fun g=>x.rs[m].vk.val.ownBlock=some g) w2 w3) (ho:kI.Own w3 B (.slice A3 n3 c3) (less i x.rs[m].nd.kids))
 (hat:(Value.slice A3 n3 c3).ownBlock=x.rs[m].vk.val.ownBlock):
 ∃rs':List Rw,oC w2 B p x {x with rs:=rs'} ((w3.setCell ⟨x.rs[m].b,6,none⟩ (.slice A3 n3 c3)).setCell ⟨x.rs[k].b,1,none⟩ (aA 0))/\rs'.map (·.nd)=QA x.l i/\rs'.map eC=x.rs.map eC:=by
 obtain⟨r1,a⟩:∃r1:Rw,r1=⟨x.rs[m].b,x.rs[m].va,⟨A3,n3,c3⟩,ZC (less i) x.rs[m].nd⟩:=⟨_,rfl⟩;have j:=H2.Cb hm (r:=r1) (f:=less i) (w':=w3) (by rw[a]) (by rw[a]) (by rw[a]) hb (by rw[a];exact ho) (fun g w=> .inl (by rw[a] at w;rw[<-hat];exact w));obtain⟨o,s⟩:=zg (x:=x) hk (r:=r1) hne;have D:r1.vk.val= .slice A3 n3 c3:=(by rw[a];rfl);rw[D] at j;have t:=JO H2 hm (r:=r1) (f:=ZC (less i)) (by rw[a]);rw[hym] at t;have A:=cT (x:=x) hm (r:=r1) (by rw[a]) (by rw[a];rfl);obtain⟨y,d⟩:∃y,y=x.put m r1:=⟨_,rfl⟩;rw[<-d] at j t A;obtain⟨c,l⟩:∃h:k<y.rs.length,y.rs[k]=x.rs[k]:=by subst d;exact⟨o,s⟩
 have e:=j.dc.gR c (r:=⟨y.rs[k].b,y.rs[k].va,y.rs[k].vk,rD 0 y.rs[k].nd⟩) rfl rfl rfl rfl (j.dc.nd c).mB (i:=1) (u:=aA 0) rfl;have v:=JO j.dc c (r:=⟨y.rs[k].b,y.rs[k].va,y.rs[k].vk,rD 0 y.rs[k].nd⟩) (f:=rD 0) rfl;have n:=cT (x:=y) c (r:=⟨y.rs[k].b,y.rs[k].va,y.rs[k].vk,rD 0 y.rs[k].nd⟩) rfl rfl;obtain⟨z,C⟩:∃z,z=y.put k ⟨y.rs[k].b,y.rs[k].va,y.rs[k].vk,rD 0 y.rs[k].nd⟩:=⟨_,rfl⟩;rw[<-C] at e v n;rw[show y.rs[k].b=x.rs[k].b by rw[l]] at e;refine⟨z.rs,?_,?_,n.trans A⟩
 ·have:({x with rs:=z.rs}:Dx)=z:=(by subst C;subst d;rfl);rw[this];exact j.trans e
 ·rw[t,show y.rs[k].nd.id=i by rw[l,hy],<-hE] at v;exact v
theorem dT(i:Int)(w:World)(hwf:WF x.d)(hi:lA x.l i=true)(h:Dc w B p x):fA 168 #[iA p,aA i] w (Left w B p x i):=by
 have D:Hid (Tr (fun y=>lA x.l y=true) (yA x.l) (xA x.l)):=Zh hwf.tr;have H:=Zh h;obtain⟨k,r,E,_⟩:=h.place hi;have g:=(gF h r E).2.1;obtain⟨b,t⟩:=qA (x.rs[k].b);obtain⟨q,l⟩:=qA (yA x.l i);rw[l] at g;have Q:=Zh E;have z:=Zh t;have HQ:=Zh l;have R:=Zh g;have hR:x.rs.length<=200:=(by have N:=h.ar.len;have h2:=h.ar.room;rw[List.length_map] at N;omega);by_cases f:q=0
 ·have S:Hid (QA x.l i=x.l):=Zh (by unfold QA;rw[l,if_pos f]);have T:(q==0)=true:=(by simpa using f);clear h E t l g hi hwf f;go_enter func168,ntmps168;go_wp2_with fail;refine(VF i w r Q z H).mono ?_;rintro e O ⟨rfl,A⟩;have P:=Zh A;have d1:O.cell? (dA b 1)=some (aA q):=(by have:=((H.below A).nd r).c1;rwa[z.out,<-R.out] at this);clear A;go_wp2_with fail;refine bodyPost_ret (results_none rfl _ _ _) rfl ?_;exact⟨rfl,x.rs,oC.sC H P,S.symm,rfl⟩
 ·have T:(q==0)=false:=(by simpa using f);have F:lA x.l q=true:=(by rw[<-l];exact D.DH (by rw[l];exact f));have G:i∈xA x.l q:=(by rw[<-l];exact D.par i (by rw[l];exact f));obtain⟨m,s,u,_⟩:=h.place F;have C:=(gF h s u).2.2;obtain⟨bm,I⟩:=qA (x.rs[m].b);have J:m≠k:=by
   rintro rfl;refine D.MK (x:=i) (j:=0) (D.SF hi) ?_;show yA x.l i=i;rw[l,<-u,E]
  have S:Hid (QA x.l i=iB (iB x.l q (ZC (less i))) i (rD 0)):=Zh (by unfold QA;rw[l,if_neg f]);have U:=Zh J;have K:=Zh u;have n:=Zh I;have V:Hid (i∈x.rs[m].nd.kids):=Zh (by rw[<-C];exact G);have W:Hid (x.rs[m].nd.kids.Nodup):=Zh (by rw[<-C];exact D.IC q);have X:x.rs[m].nd.kids.length<=1000000:=(by have:=hwf.vM (x:=x.rs[m].nd) (List.mem_map.2 ⟨_,List.getElem_mem s,rfl⟩);omega);obtain⟨vm,L⟩:=qA (x.rs[m].vk.val);have o:=Zh L;clear h E t l g hi hwf f F G u C I J L;go_enter func168,ntmps168;go_wp2_with fail;refine(VF i w r Q z H).mono ?_;rintro e O ⟨rfl,A⟩;have P:=Zh A;have Y:=Zh (H.below A);have d1:O.cell? (dA b 1)=some (aA q):=(by have:=(Y.nd r).c1;rwa[z.out,<-R.out] at this);clear A;go_wp2_with fail;refine(VF q O s K n Y).mono ?_;rintro e Z ⟨rfl,b2⟩;have B2:=Zh (P.trans (b2.mono P.size));have v:=Zh (Y.below b2);have d6:Z.cell? (dA bm 6)=some vm:=(by have:=(v.nd s).c6;rwa[n.out,o.out] at this);clear b2 d1;go_wp2_with fail;refine(pW x.rs[m].nd.kids i Z X V W (by have:=(v.nd s).kids;rwa[o.out] at this)).mono ?_;rintro e w3 ⟨A3,n3,c3,rfl,o3,b3,M⟩;have O3:=Zh o3;have B3:=Zh b3;have a0:=Zh M;have c:∀(j:Nat) (hj:j<x.rs.length),w3.heap[x.rs[j].b]? = Z.heap[x.rs[j].b]?:=fun j hj=>b3.block _ (v.nd hj).lt (fun e=>by
   obtain⟨d,hd⟩:=(v.nd s).kids.ty (by rw[o.out];exact e);exact RA hd (v.nd hj).mA nA rfl)
  have K3:=Zh c;have e6:w3.cell? (dA bm 6)=some vm:=(by have:=World.cell?_of_block (a:=⟨x.rs[m].b,6,none⟩) (c m s);rw[n.out] at this;rw[this];exact d6);have f6:w3.frozen? (dA bm 6)=false:=(by have t:=c m s;rw[(v.out.nd s).mA,n.out] at t;simp[World.frozen?,t]);have e1:w3.cell? (dA b 1)=some (aA q):=(by have:=World.cell?_of_block (a:=⟨x.rs[k].b,1,none⟩) (c k r);rw[(v.out.nd r).c1,<-R.out,z.out] at this;exact this);have f1:w3.frozen? (dA b 1)=false:=(by have t:=c k r;rw[(v.out.nd r).mA,z.out] at t;simp[World.frozen?,t]);clear o3 b3 M c d6;go_wp2_with fail
  go_end0
  obtain⟨a1,N,h2,h3⟩:=Ag v r s U Q K S (A3:=A3) (n3:=n3) (c3:=c3) (w3:=w3) (by rw[o.out];exact B3) O3 (by rw[o.out];exact a0);rw[n.out,z.out] at N;exact⟨rfl,a1,(oC.sC H B2).trans N,h2,h3⟩
variable{B p:Nat}{x:Dx}
theorem MI(t:wA){r:Bool}(w:World)(h:P1.fC t.data.toList=r):fA 78 #[bA t] w fun e w'=>e= .returned (.bool r)/\w=w':=by
 subst h;exact P1.SP t w
theorem zP(a b:Int){r:Bool}(w:World)(hr:inside x.l a b=r)(hwf:WF x.d)(ha:lA x.l a=true)(hb:lA x.l b=true)(h:Dc w B p x):fA 167 #[iA p,aA a,aA b] w fun e w'=>e= .returned (.bool r)/\eA w w':=by
 subst hr;exact Ge a b w hwf ha hb h
theorem Vm(i q b:Int)(w:World)(hi:lA x.l i=false)(h:Dc w B p x):fA 139 #[iA p,aA i,aA q,aA b] w fun e w'=>e= .returned (.iface 56 (aA 2))/\eA w w':=by
 have c:=Zh (Below.refl w.heap.size w);have d:=Zh h;have f:=Zh hi;clear h hi;go_enter func139,ntmps139;go_wp2_with fail;refine(xC i w f d).mono ?_;rintro e j ⟨rfl,a⟩;have g:=Zh (c.trans (a.mono c.size));have k:=Zh (d.below a);clear a;go_wp2_with fail;go_ret;exact⟨rfl,g⟩
theorem Xm(i q b:Int)(w:World)(hi:lA x.l i=true)(hp:lA x.l q=false)(h:Dc w B p x):fA 139 #[iA p,aA i,aA q,aA b] w fun e w'=>e= .returned (.iface 56 (aA 2))/\eA w w':=by
 have c:=Zh (Below.refl w.heap.size w);have d:=Zh h;have j:=Zh hi;have k:=Zh hp;clear h hi hp;go_enter func139,ntmps139;go_wp2_with fail;refine(xC i w j d).mono ?_;rintro e l ⟨rfl,a⟩;have f:=Zh (c.trans (a.mono c.size));have g:=Zh (d.below a);clear a;go_wp2_with fail;refine(xC q l k g).mono ?_;rintro e n ⟨rfl,a⟩;have m:=Zh (f.trans (a.mono f.size));have o:=Zh (g.below a);clear a;go_wp2_with fail;go_ret;exact⟨rfl,m⟩
theorem Ym(i q b:Int)(w:World)(hi:lA x.l i=true)(hp:lA x.l q=true)(hq:(b != 0)=true)(hb:lA x.l b=false)(h:Dc w B p x):fA 139 #[iA p,aA i,aA q,aA b] w fun e w'=>e= .returned (.iface 56 (aA 2))/\eA w w':=by
 have c:=Zh (Below.refl w.heap.size w);have d:=Zh h;have l:=Zh hi;have m:=Zh hp;have n:=Zh hb;clear h hi hp hb;go_enter func139,ntmps139;go_wp2_with fail;refine(xC i w l d).mono ?_;rintro e o ⟨rfl,a⟩;have f:=Zh (c.trans (a.mono c.size));have g:=Zh (d.below a);clear a;go_wp2_with fail;refine(xC q o m g).mono ?_;rintro e r ⟨rfl,a⟩;have j:=Zh (f.trans (a.mono f.size));have k:=Zh (g.below a);clear a;go_wp2_with fail;refine(xC b r n k).mono ?_;rintro e t ⟨rfl,a⟩;have s:=Zh (j.trans (a.mono j.size));have u:=Zh (k.below a);clear a;go_wp2_with fail;go_ret;exact⟨rfl,s⟩
theorem Zm(i q b:Int)(w:World)(hi:lA x.l i=true)(hp:lA x.l q=true)(hq:(b != 0)=false)(h1:(i==1)=true)(h:Dc w B p x):fA 139 #[iA p,aA i,aA q,aA b] w fun e w'=>e= .returned (.iface 56 (aA 4))/\eA w w':=by
 have c:=Zh (Below.refl w.heap.size w);have d:=Zh h;have j:=Zh hi;have k:=Zh hp;clear h hi hp;go_enter func139,ntmps139;go_wp2_with fail;refine(xC i w j d).mono ?_;rintro e l ⟨rfl,a⟩;have f:=Zh (c.trans (a.mono c.size));have g:=Zh (d.below a);clear a;go_wp2_with fail;refine(xC q l k g).mono ?_;rintro e n ⟨rfl,a⟩;have m:=Zh (f.trans (a.mono f.size));have o:=Zh (g.below a);clear a;go_wp2_with fail;go_ret;exact⟨rfl,m⟩
theorem en(i q b:Int)(w:World)(hi:lA x.l i=true)(hp:lA x.l q=true)(hq:(b != 0)=true)(hb:lA x.l b=true)(h1:(i==1)=true)(h:Dc w B p x):fA 139 #[iA p,aA i,aA q,aA b] w fun e w'=>e= .returned (.iface 56 (aA 4))/\eA w w':=by
 have c:=Zh (Below.refl w.heap.size w);have d:=Zh h;have l:=Zh hi;have m:=Zh hp;have n:=Zh hb;clear h hi hp hb;go_enter func139,ntmps139;go_wp2_with fail;refine(xC i w l d).mono ?_;rintro e o ⟨rfl,a⟩;have f:=Zh (c.trans (a.mono c.size));have g:=Zh (d.below a);clear a;go_wp2_with fail;refine(xC q o m g).mono ?_;rintro e r ⟨rfl,a⟩;have j:=Zh (f.trans (a.mono f.size));have k:=Zh (g.below a);clear a;go_wp2_with fail;refine(xC b r n k).mono ?_;rintro e t ⟨rfl,a⟩;have s:=Zh (j.trans (a.mono j.size));have u:=Zh (k.below a);clear a;go_wp2_with fail;go_ret;exact⟨rfl,s⟩
theorem zj(i q b:Int)(w:World)(hi:lA x.l i=true)(hp:lA x.l q=true)(hq:(b != 0)=false)(h1:(i==1)=false)(ht:(MA x.l q).toList.isEmpty=true)(h:Dc w B p x):fA 139 #[iA p,aA i,aA q,aA b] w fun e w'=>e= .returned (.iface 56 (aA 3))/\eA w w':=by
 have o:=Zh (Below.refl w.heap.size w);have r:=Zh h;obtain⟨m,k,d,_⟩:=h.place hp;obtain⟨tg,f⟩:=qA (x.rs[m].nd.tag);have c:tg=MA x.l q:=(by rw[(gF h k d).1,f]);obtain⟨bm,g⟩:=qA (x.rs[m].b);rw[<-c] at ht;have y:=Zh hi;have z:=Zh hp;have l:=Zh d;have n:=Zh f;have j:=Zh g;clear h hi hp d f c g;go_enter func139,ntmps139;go_wp2_with fail;refine(xC i w y r).mono ?_;rintro e A ⟨rfl,a⟩;have s:=Zh (o.trans (a.mono o.size));have t:=Zh (r.below a);clear a;go_wp2_with fail;refine(xC q A z t).mono ?_;rintro e C ⟨rfl,a⟩;have u:=Zh (s.trans (a.mono s.size));have v:=Zh (t.below a);clear a;go_wp2_with fail;refine(VF q C k l j v).mono ?_;rintro e D ⟨rfl,a⟩;have E:=Zh (u.trans (a.mono u.size));have F:=Zh (v.below a);have G:D.cell? (dA bm 2)=some (bA tg):=(by have:=(F.nd k).c2;rwa[j.out,n.out] at this);clear a;go_wp2_with fail;go_ret;exact⟨rfl,E⟩
theorem Aj(i q b:Int)(w:World)(hi:lA x.l i=true)(hp:lA x.l q=true)(hq:(b != 0)=true)(hb:lA x.l b=true)(h1:(i==1)=false)(ht:(MA x.l q).toList.isEmpty=true)(h:Dc w B p x):fA 139 #[iA p,aA i,aA q,aA b] w fun e w'=>e= .returned (.iface 56 (aA 3))/\eA w w':=by
 have o:=Zh (Below.refl w.heap.size w);have r:=Zh h;obtain⟨m,k,d,_⟩:=h.place hp;obtain⟨tg,f⟩:=qA (x.rs[m].nd.tag);have c:tg=MA x.l q:=(by rw[(gF h k d).1,f]);obtain⟨bm,g⟩:=qA (x.rs[m].b);rw[<-c] at ht;have A:=Zh hi;have C:=Zh hp;have D:=Zh hb;have l:=Zh d;have n:=Zh f;have j:=Zh g;clear h hi hp hb d f c g;go_enter func139,ntmps139;go_wp2_with fail;refine(xC i w A r).mono ?_;rintro e E ⟨rfl,a⟩;have s:=Zh (o.trans (a.mono o.size));have t:=Zh (r.below a);clear a;go_wp2_with fail;refine(xC q E C t).mono ?_;rintro e F ⟨rfl,a⟩;have u:=Zh (s.trans (a.mono s.size));have v:=Zh (t.below a);clear a;go_wp2_with fail;refine(xC b F D v).mono ?_;rintro e G ⟨rfl,a⟩;have y:=Zh (u.trans (a.mono u.size));have z:=Zh (v.below a);clear a;go_wp2_with fail;refine(VF q G k l j z).mono ?_;rintro e H ⟨rfl,a⟩;have I:=Zh (y.trans (a.mono y.size));have J:=Zh (z.below a);have K:H.cell? (dA bm 2)=some (bA tg):=(by have:=(J.nd k).c2;rwa[j.out,n.out] at this);clear a;go_wp2_with fail;go_ret;exact⟨rfl,I⟩
theorem Bj(i q b:Int)(w:World)(hi:lA x.l i=true)(hp:lA x.l q=true)(hq:(b != 0)=false)(h1:(i==1)=false)(ht:(MA x.l q).toList.isEmpty=false)(hv:P1.fC (MA x.l q).data.toList=true)(h:Dc w B p x):fA 139 #[iA p,aA i,aA q,aA b] w fun e w'=>e= .returned (.iface 56 (aA 3))/\eA w w':=by
 have o:=Zh (Below.refl w.heap.size w);have r:=Zh h;obtain⟨m,k,d,_⟩:=h.place hp;obtain⟨tg,f⟩:=qA (x.rs[m].nd.tag);have a:tg=MA x.l q:=(by rw[(gF h k d).1,f]);obtain⟨bm,g⟩:=qA (x.rs[m].b);rw[<-a] at ht;rw[<-a] at hv;have z:=Zh hi;have A:=Zh hp;have l:=Zh d;have n:=Zh f;have j:=Zh g;have C:=Zh hv;clear h hi hp d f a g hv;go_enter func139,ntmps139;go_wp2_with fail;refine(xC i w z r).mono ?_;rintro e D ⟨rfl,c⟩;have s:=Zh (o.trans (c.mono o.size));have t:=Zh (r.below c);clear c;go_wp2_with fail;refine(xC q D A t).mono ?_;rintro e E ⟨rfl,c⟩;have u:=Zh (s.trans (c.mono s.size));have v:=Zh (t.below c);clear c;go_wp2_with fail;refine(VF q E k l j v).mono ?_;rintro e y ⟨rfl,c⟩;have F:=Zh (u.trans (c.mono u.size));have G:=Zh (v.below c);have H:y.cell? (dA bm 2)=some (bA tg):=(by have:=(G.nd k).c2;rwa[j.out,n.out] at this);clear c;go_wp2_with fail;refine zA (MI tg y C) ?_;go_wp2_with fail;go_ret;exact⟨rfl,F⟩
theorem Cj(i q b:Int)(w:World)(hi:lA x.l i=true)(hp:lA x.l q=true)(hq:(b != 0)=true)(hb:lA x.l b=true)(h1:(i==1)=false)(ht:(MA x.l q).toList.isEmpty=false)(hv:P1.fC (MA x.l q).data.toList=true)(h:Dc w B p x):fA 139 #[iA p,aA i,aA q,aA b] w fun e w'=>e= .returned (.iface 56 (aA 3))/\eA w w':=by
 have o:=Zh (Below.refl w.heap.size w);have r:=Zh h;obtain⟨m,k,d,_⟩:=h.place hp;obtain⟨tg,f⟩:=qA (x.rs[m].nd.tag);have c:tg=MA x.l q:=(by rw[(gF h k d).1,f]);obtain⟨bm,g⟩:=qA (x.rs[m].b);rw[<-c] at ht;rw[<-c] at hv;have C:=Zh hi;have D:=Zh hp;have E:=Zh hb;have l:=Zh d;have n:=Zh f;have j:=Zh g;have F:=Zh hv;clear h hi hp hb d f c g hv;go_enter func139,ntmps139;go_wp2_with fail;refine(xC i w C r).mono ?_;rintro e G ⟨rfl,a⟩;have s:=Zh (o.trans (a.mono o.size));have t:=Zh (r.below a);clear a;go_wp2_with fail;refine(xC q G D t).mono ?_;rintro e H ⟨rfl,a⟩;have u:=Zh (s.trans (a.mono s.size));have v:=Zh (t.below a);clear a;go_wp2_with fail;refine(xC b H E v).mono ?_;rintro e I ⟨rfl,a⟩;have y:=Zh (u.trans (a.mono u.size));have z:=Zh (v.below a);clear a;go_wp2_with fail;refine(VF q I k l j z).mono ?_;rintro e A ⟨rfl,a⟩;have J:=Zh (y.trans (a.mono y.size));have K:=Zh (z.below a);have L:A.cell? (dA bm 2)=some (bA tg):=(by have:=(K.nd k).c2;rwa[j.out,n.out] at this);clear a;go_wp2_with fail;refine zA (MI tg A F) ?_;go_wp2_with fail;go_ret;exact⟨rfl,J⟩
theorem Dj(i q b:Int)(w:World)(hi:lA x.l i=true)(hp:lA x.l q=true)(hq:(b != 0)=true)(hb:lA x.l b=true)(h1:(i==1)=false)(ht:(MA x.l q).toList.isEmpty=false)(hv:P1.fC (MA x.l q).data.toList=false)(hbi:(b==i)=true)(h:Dc w B p x):fA 139 #[iA p,aA i,aA q,aA b] w fun e w'=>e= .returned (.iface 56 (aA 1))/\eA w w':=by
 have o:=Zh (Below.refl w.heap.size w);have r:=Zh h;obtain⟨m,k,d,_⟩:=h.place hp;obtain⟨tg,f⟩:=qA (x.rs[m].nd.tag);have c:tg=MA x.l q:=(by rw[(gF h k d).1,f]);obtain⟨bm,g⟩:=qA (x.rs[m].b);rw[<-c] at ht;rw[<-c] at hv;have C:=Zh hi;have D:=Zh hp;have E:=Zh hb;have l:=Zh d;have n:=Zh f;have j:=Zh g;have F:=Zh hv;clear h hi hp hb d f c g hv;go_enter func139,ntmps139;go_wp2_with fail;refine(xC i w C r).mono ?_;rintro e G ⟨rfl,a⟩;have s:=Zh (o.trans (a.mono o.size));have t:=Zh (r.below a);clear a;go_wp2_with fail;refine(xC q G D t).mono ?_;rintro e H ⟨rfl,a⟩;have u:=Zh (s.trans (a.mono s.size));have v:=Zh (t.below a);clear a;go_wp2_with fail;refine(xC b H E v).mono ?_;rintro e I ⟨rfl,a⟩;have y:=Zh (u.trans (a.mono u.size));have z:=Zh (v.below a);clear a;go_wp2_with fail;refine(VF q I k l j z).mono ?_;rintro e A ⟨rfl,a⟩;have J:=Zh (y.trans (a.mono y.size));have K:=Zh (z.below a);have L:A.cell? (dA bm 2)=some (bA tg):=(by have:=(K.nd k).c2;rwa[j.out,n.out] at this);clear a;go_wp2_with fail;refine zA (MI tg A F) ?_;go_wp2_with fail;go_ret;exact⟨rfl,J⟩
theorem Ej(i q b:Int)(w:World)(hi:lA x.l i=true)(hp:lA x.l q=true)(hq:(b != 0)=true)(hb:lA x.l b=true)(h1:(i==1)=false)(ht:(MA x.l q).toList.isEmpty=false)(hv:P1.fC (MA x.l q).data.toList=false)(hbi:(b==i)=false)(DH:(yA x.l b != q)=true)(h:Dc w B p x):fA 139 #[iA p,aA i,aA q,aA b] w fun e w'=>e= .returned (.iface 56 (aA 1))/\eA w w':=by
 have D:=Zh (Below.refl w.heap.size w);have E:=Zh h;obtain⟨m,s,d,_⟩:=h.place hp;obtain⟨tg,f⟩:=qA (x.rs[m].nd.tag);have c:tg=MA x.l q:=(by rw[(gF h s d).1,f]);obtain⟨bm,l⟩:=qA (x.rs[m].b);rw[<-c] at ht;rw[<-c] at hv;obtain⟨j,t,g,_⟩:=h.place hb;obtain⟨pb,k⟩:=qA (x.rs[j].nd.par);rw[(gF h t g).2.1,k] at DH;obtain⟨bj,n⟩:=qA (x.rs[j].b);have M:=Zh hi;have N:=Zh hp;have O:=Zh hb;have u:=Zh d;have v:=Zh f;have o:=Zh l;have P:=Zh hv;have y:=Zh g;have z:=Zh k;have r:=Zh n;clear h hi hp hb d f c l hv g k n;go_enter func139,ntmps139;go_wp2_with fail;refine(xC i w M E).mono ?_;rintro e Q ⟨rfl,a⟩;have F:=Zh (D.trans (a.mono D.size));have G:=Zh (E.below a);clear a;go_wp2_with fail;refine(xC q Q N G).mono ?_;rintro e R ⟨rfl,a⟩;have H:=Zh (F.trans (a.mono F.size));have I:=Zh (G.below a);clear a;go_wp2_with fail;refine(xC b R O I).mono ?_;rintro e S ⟨rfl,a⟩;have J:=Zh (H.trans (a.mono H.size));have K:=Zh (I.below a);clear a;go_wp2_with fail;refine(VF q S s u o K).mono ?_;rintro e A ⟨rfl,a⟩;have L:=Zh (J.trans (a.mono J.size));have C:=Zh (K.below a);have W:A.cell? (dA bm 2)=some (bA tg):=(by have:=(C.nd s).c2;rwa[o.out,v.out] at this);clear a;go_wp2_with fail;refine zA (MI tg A P) ?_;go_wp2_with fail;refine(VF b A t y r C).mono ?_;rintro e T ⟨rfl,a⟩;have U:=Zh (L.trans (a.mono L.size));have V:=Zh (C.below a);have X:T.cell? (dA bj 1)=some (aA pb):=(by have:=(V.nd t).c1;rwa[r.out,z.out] at this);clear a;go_wp2_with fail;go_ret;exact⟨rfl,U⟩
theorem kn(i q b:Int)(w:World)(hi:lA x.l i=true)(hp:lA x.l q=true)(hq:(b != 0)=false)(h1:(i==1)=false)(ht:(MA x.l q).toList.isEmpty=false)(hv:P1.fC (MA x.l q).data.toList=false)(hwf:WF x.d)(hin:inside x.l q i=true)(h:Dc w B p x):fA 139 #[iA p,aA i,aA q,aA b] w fun e w'=>e= .returned (.iface 56 (aA 5))/\eA w w':=by
 have u:=Zh (Below.refl w.heap.size w);have v:=Zh h;obtain⟨m,k,d,_⟩:=h.place hp;obtain⟨tg,f⟩:=qA (x.rs[m].nd.tag);have c:tg=MA x.l q:=(by rw[(gF h k d).1,f]);obtain⟨bm,g⟩:=qA (x.rs[m].b);rw[<-c] at ht;rw[<-c] at hv;have y:=Zh hi;have z:=Zh hp;have l:=Zh d;have n:=Zh f;have j:=Zh g;have G:=Zh hv;have o:=Zh hwf;have r:=Zh hin;clear h hi hp d f c g hv hwf hin;go_enter func139,ntmps139;go_wp2_with fail;refine(xC i w y v).mono ?_;rintro e H ⟨rfl,a⟩;have A:=Zh (u.trans (a.mono u.size));have C:=Zh (v.below a);clear a;go_wp2_with fail;refine(xC q H z C).mono ?_;rintro e I ⟨rfl,a⟩;have D:=Zh (A.trans (a.mono A.size));have E:=Zh (C.below a);clear a;go_wp2_with fail;refine(VF q I k l j E).mono ?_;rintro e s ⟨rfl,a⟩;have F:=Zh (D.trans (a.mono D.size));have t:=Zh (E.below a);have K:s.cell? (dA bm 2)=some (bA tg):=(by have:=(t.nd k).c2;rwa[j.out,n.out] at this);clear a;go_wp2_with fail;refine zA (MI tg s G) ?_;go_wp2_with fail;refine(zP q i s r o z y t).mono ?_;rintro e L ⟨rfl,a⟩;have J:=Zh (F.trans (a.mono F.size));have M:=Zh (t.below a);clear a;go_wp2_with fail;go_ret;exact⟨rfl,J⟩
theorem mn(i q b:Int)(w:World)(hi:lA x.l i=true)(hp:lA x.l q=true)(hq:(b != 0)=true)(hb:lA x.l b=true)(hbi:(b==i)=false)(DH:(yA x.l b != q)=false)(h1:(i==1)=false)(ht:(MA x.l q).toList.isEmpty=false)(hv:P1.fC (MA x.l q).data.toList=false)(hwf:WF x.d)(hin:inside x.l q i=true)(h:Dc w B p x):fA 139 #[iA p,aA i,aA q,aA b] w fun e w'=>e= .returned (.iface 56 (aA 5))/\eA w w':=by
 have G:=Zh (Below.refl w.heap.size w);have H:=Zh h;obtain⟨m,s,d,_⟩:=h.place hp;obtain⟨tg,f⟩:=qA (x.rs[m].nd.tag);have c:tg=MA x.l q:=(by rw[(gF h s d).1,f]);obtain⟨bm,l⟩:=qA (x.rs[m].b);rw[<-c] at ht;rw[<-c] at hv;obtain⟨j,t,g,_⟩:=h.place hb;obtain⟨pb,k⟩:=qA (x.rs[j].nd.par);rw[(gF h t g).2.1,k] at DH;obtain⟨bj,n⟩:=qA (x.rs[j].b);have I:=Zh hi;have J:=Zh hp;have T:=Zh hb;have u:=Zh g;have v:=Zh k;have o:=Zh n;have y:=Zh d;have z:=Zh f;have r:=Zh l;have U:=Zh hv;have A:=Zh hwf;have C:=Zh hin;clear h hi hp hb g k n d f c l hv hwf hin;go_enter func139,ntmps139;go_wp2_with fail;refine(xC i w I H).mono ?_;rintro e V ⟨rfl,a⟩;have K:=Zh (G.trans (a.mono G.size));have L:=Zh (H.below a);clear a;go_wp2_with fail;refine(xC q V J L).mono ?_;rintro e W ⟨rfl,a⟩;have M:=Zh (K.trans (a.mono K.size));have N:=Zh (L.below a);clear a;go_wp2_with fail;refine(xC b W T N).mono ?_;rintro e X ⟨rfl,a⟩;have O:=Zh (M.trans (a.mono M.size));have P:=Zh (N.below a);clear a;go_wp2_with fail;refine(VF q X s y r P).mono ?_;rintro e D ⟨rfl,a⟩;have Q:=Zh (O.trans (a.mono O.size));have E:=Zh (P.below a);have Z:D.cell? (dA bm 2)=some (bA tg):=(by have:=(E.nd s).c2;rwa[r.out,z.out] at this);clear a;go_wp2_with fail;refine zA (MI tg D U) ?_;go_wp2_with fail;refine(VF b D t u o E).mono ?_;rintro e R ⟨rfl,a⟩;have S:=Zh (Q.trans (a.mono Q.size));have F:=Zh (E.below a);have d1:R.cell? (dA bj 1)=some (aA pb):=(by have:=(F.nd t).c1;rwa[o.out,v.out] at this);clear a;go_wp2_with fail;refine(zP q i R C A J I F).mono ?_;rintro e w6 ⟨rfl,a⟩;have Y:=Zh (S.trans (a.mono S.size));have H6:=Zh (F.below a);clear a;go_wp2_with fail;go_ret;exact⟨rfl,Y⟩
end P5
namespace P4
open Go.RowKit Kd
theorem sU(a b:Int)(w:World):(binOp .eql 31 (.iface 56 (aA a)) (.iface 56 (aA b))).run prog w= .ok (.bool (a==b)) w:=
 Lib.run_eql_iface_int w a b underlying31 (by kernel_rfl) underlying56
theorem cS(x:Value)(w:World):(binOp .eql 31 (.iface 56 x) .nilIface).run prog w= .ok (.bool false) w:=run_eql_held_nil _ _ _ _ (by kernel_rfl)
theorem FF(x:Value)(w:World):(binOp .neq 31 (.iface 56 x) .nilIface).run prog w= .ok (.bool true) w:=run_neq_held_nil _ _ _ _ (by kernel_rfl)
theorem dS(w:World):(binOp .eql 31 .nilIface .nilIface).run prog w= .ok (.bool true) w:=Go.run_eql_nil_nil _ _ (by kernel_rfl)
theorem TF(w:World):(binOp .neq 31 .nilIface .nilIface).run prog w= .ok (.bool false) w:=Go.run_neq_nil_nil _ _ (by kernel_rfl)
theorem Fj(m:Nat)(h1:1<=m)(h13:m<=13)(w:World):fA 12 #[.iface 56 (aA m)] w fun e w'=>e= .returned (aA m)/\w=w':=by
 have f:=cS;have g:=sU;go_enter func12,ntmps12;go_wp2;go_loop [3] (fun i=>∃k:Nat,1<=k/\k<=m/\i = aA k) (fun i=>m-(intOf i).toNat)
 case atStart=>exact⟨1,by omega,h1,rfl⟩
 case round=>
  obtain⟨k,a,b,rfl⟩:=hrel;by_cases c:k<m
  ·have d:((m:Int)==(k:Int))=false:=beq_eq_false_iff_ne.2 cA;go_wp2;go_round
   case rel=>exact⟨k+1,by omega,by omega,by go_num⟩
   case measure=>simp[intOf];omega
  ·obtain rfl:k=m:=cA
   go_wp2;go_ret;exact⟨rfl,rfl⟩
end P4
namespace P3
open Go.RowKit
theorem Gg{l:List At}(h:20<l.length):ZH l=false:=by unfold ZH;simp;omega
theorem zZ{l:List At}{k:Nat}(hk:k<l.length)(h:qI l[k]=false):ZH l=false:=by
 unfold ZH;have:l.all qI=false:=by
  rw[List.all_eq_false];exact⟨l[k],List.getElem_mem hk,by simp[h]⟩
 rw[this,Bool.and_false]
def zJ(l:List At)(k:Nat):Prop:=∀j (h:j<l.length),j<k->qI l[j]=true
theorem zJ.zero(l:List At):zJ l 0:=fun _ _ h=>absurd h cA
theorem zJ.next{l:List At}{k:Nat}(h:zJ l k)(hk:k<l.length)(hb:qI l[k]=true):zJ l (k+1):=by
 intro j a b;by_cases e:j=k
 ·subst e;exact hb
 ·exact h j a cA
theorem zJ.all{l:List At}{k:Nat}(h:zJ l k)(hl:l.length<=k)(h20:l.length<=20):ZH l=true:=by
 unfold ZH;have:l.all qI=true:=by
  rw[List.all_eq_true];intro x hx;obtain⟨j,a,rfl⟩:=List.getElem_of_mem hx;exact h j a cA
 rw[this,Bool.and_true];exact decide_eq_true h20
def zL(l:List At):Int:=if ZH l then 1 else 0
theorem qQ{l:List At}{b:Bool}{x:Int}(h:ZH l=b)(hx:x=if b then 1 else 0):Ending.returned (aA x)= .returned (aA (zL l)):=by
 unfold zL;rw[h,hx]
theorem CZ{a:At}(h:100<a.nm.size\/100<a.vl.size):qI a=false:=by
 unfold qI;rcases h with h|h<;>simp<;>omega
theorem Hg{a:At}(h:a.nm.size<=100)(h2:a.vl.size<=100):qI a=true:=by
 unfold qI;simp[h,h2]
theorem I8(l:List At)(A:jA)(n c:Nat)(w:World)(hn:l.length=n)(hl:n<=9223372036854775807)(H:pA w w.heap.size A l):
 fA 50 #[.slice A n c] w fun e w'=>e= .returned (aA (zL l))/\w=w':=by
 have r:=Zh H;have f:=Zh hn;clear H hn;go_enter func50,ntmps50;go_wp2_with fail;go_loop [3] (fun i=>∃k:Nat,k<=n/\k<=20/\i = aA k/\Hid (zJ l k)) (fun i=>n-(intOf i).toNat)
 case atStart=>exact⟨0,by omega,by omega,rfl,Zh (zJ.zero _)⟩
 case round=>
  obtain⟨k,t,p,rfl,q⟩:=hrel;by_cases g:k<n
  ·by_cases s:k<20
   ·have a:k<l.length:=(uA f.out);obtain⟨b,o,rfl,u,v,x,y⟩:=r k a;by_cases j:100<l[k].nm.size
    ·go_wp2_with fail;go_ret;exact⟨qQ (zZ a (CZ (.inl j))) rfl,rfl⟩
    ·by_cases m:100<l[k].vl.size
     ·go_wp2_with fail;go_ret;exact⟨qQ (zZ a (CZ (.inr m))) rfl,rfl⟩
     ·go_wp2_with fail;go_round
      case rel=>exact⟨k+1,by omega,by omega,by go_num,Zh (q.next a (Hg cA cA))⟩
      case measure=>simp[intOf];omega
   ·obtain rfl:k=20:=cA
    by_cases d:20<n
    ·go_wp2_with fail;go_ret;exact⟨qQ (Gg (uA f.out)) rfl,rfl⟩
    ·exact absurd g d
  ·obtain rfl:k=n:=cA
   go_wp2_with fail;go_ret;exact⟨qQ (q.all (uA f.out) (uA f.out)) rfl,rfl⟩
end P3
end Go.Proofs.YtngnkmeaaneklaaGreat
