/- Trees whose children's slices are of a call's own. No condition. -/
import Derived.Test.YtbdcbjeeaebfeaaM10
import Derived.Test.YtbdcbjeeaebfeaaM11
import Derived.Test.YtbdcbjeeaebfeaaM27
set_option linter.unusedVariables false
set_option linter.unusedSimpArgs false
namespace Go.Proofs.Ytbdcbjeeaebfeaa.P8
open Go.RowKit Kd P4 P5

/-- the slices of its children, and of all below, are of one's own; their blocks are in Q -/
inductive TNew (w : World) (Q : Nat → Prop) : TV → Prop
  | mk {tag txt key : ByteArray} {sa sk : Sv} {attrs : List P3.At} {kids : List TV} (at_ : AOk w sa attrs) (own : kT.Own w 0 (.slice sk.A sk.n sk.c) kids) (q : ∀ b, (Value.slice sk.A sk.n sk.c).ownBlock = some b → Q b) (ks : ∀ k ∈ kids, TNew w Q k) : TNew w Q (.mk tag txt key sa attrs sk kids)
section
variable {w w' : World} {Q R S : Nat → Prop} {t : TV}
theorem TNew.at_ (h : TNew w Q t) : AOk w t.sa t.attrs := by cases h; assumption
theorem TNew.own (h : TNew w Q t) : kT.Own w 0 (.slice t.sk.A t.sk.n t.sk.c) t.kids := by cases h; assumption
theorem TNew.q (h : TNew w Q t) : ∀ b, (Value.slice t.sk.A t.sk.n t.sk.c).ownBlock = some b → Q b := by cases h; assumption
theorem TNew.ks (h : TNew w Q t) : ∀ k ∈ t.kids, TNew w Q k := by cases h; assumption
theorem TNew.mono (h : TNew w Q t) (hq : ∀ b, b < w.heap.size → Q b → R b) : TNew w R t := by
  induction t using TV.ind with
  | h tag txt key sa attrs sk kids ih => exact ⟨h.at_, h.own, fun b hb => hq b (h.own.lt hb).2 (h.q b hb), fun k hk => ih k hk (h.ks k hk)⟩
theorem TNew.but (h : TNew w Q t) (hb : But S w w') (hS : ∀ b, Q b → ¬ S b) (hA : NoA w S) : TNew w' Q t := by
  induction t using TV.ind with
  | h tag txt key sa attrs sk kids ih => exact ⟨h.at_.but hb hA, h.own.but hb (fun b e => hS b (h.q b e)), h.q, fun k hk => ih k hk (h.ks k hk)⟩
theorem TNew.later (h : TNew w Q t) (hb : Below w.heap.size w w') : TNew w' Q t := h.but (But.of_below hb (fun _ => False)) (fun _ _ h => h) (NoA.none w)
theorem TNew.ok (h : TNew w Q t) : TOk w w.heap.size t := by
  induction t using TV.ind with
  | h tag txt key sa attrs sk kids ih =>
    have h1 := h.at_
    have h2 := h.own
    simp only [TV.sa, TV.attrs] at h1
    simp only [TV.sk, TV.kids] at h2
    obtain ⟨A, n, c, hv, e1, e2, e3, e4, e5⟩ := h2.slice
    injection hv with v1 v2 v3
    subst v1; subst v2; subst v3
    exact ⟨h1.len, h1.cap, h1.nil, h1.holds, e1, e2, fun e => e4 e, e5, fun k hk => ih k hk (h.ks k hk)⟩
end
def zTV : TV := .mk ⟨#[]⟩ ⟨#[]⟩ ⟨#[]⟩ ⟨none, 0, 0⟩ [] ⟨none, 0, 0⟩ []
theorem treeP_succ {l : List Nd} {i : Int} {nd : Nd} (h : find l i = some nd) (f : Nat) : treeP l (f + 1) i = .mk nd.tag nd.txt nd.key nd.attrs (nd.kids.map (treeP l f)) := by rw [treeP, h]
/-- blocks of trees alone -/
theorem tree_noA {S : Nat → Prop} {w : World} (h : ∀ b, S b → ∃ cur, w.heap[b]? = some (.cells cur 38 (0, 0))) : NoA w S := fun k cur fr hk hc => by
  obtain ⟨c, h1⟩ := h k hk
  exact heap_ne hc h1 (by decide) rfl
/-- a tree's own slice of children grows by one: what lies in the tree's block behind it -/
structure Grew (w w' : World) (g : Nat) (D : Nat) (tag txt key : ByteArray) (sa : Sv) (attrs : List P3.At) (A : Option Addr) (n c : Nat) (l : List TV) (Q : Nat → Prop) : Prop where
  tb : TB w' g (.mk tag txt key sa attrs ⟨A, n, c⟩ l)
  own : kT.Own w' D (.slice A n c) l
  ks : ∀ k ∈ l, TNew w' (fun b => Q b ∧ (Value.slice A n c).ownBlock ≠ some b) k
theorem kids_grew {w5 w7 : World} {o : Obj} {g D : Nat} {tag txt key : ByteArray} {sa : Sv} {attrs : List P3.At} {A A7 : Option Addr} {n c n7 c7 : Nat} {l : List TV} {k : TV} {Q : Nat → Prop} (hQ : ∀ b, Q b → b ≠ g) (hD : g < D)
    (tb : TB w5 g (.mk tag txt key sa attrs ⟨A, n, c⟩ l)) (own : kT.Own w5 D (.slice A n c) l) (ks : ∀ k ∈ l, TNew w5 (fun b => Q b ∧ (Value.slice A n c).ownBlock ≠ some b) k)
    (hk : TNew w5 (fun b => Q b ∧ (Value.slice A n c).ownBlock ≠ some b) k) (hg : (w5.alloc o).grownBy w7 (Value.slice A n c).ownBlock) (hown : kT.Own w7 D (.slice A7 n7 c7) (l ++ [k])) (hat : (Value.slice A7 n7 c7).ownBlock = (Value.slice A n c).ownBlock ∨ (Value.slice A7 n7 c7).ownBlock = some (w5.alloc o).heap.size) :
    Grew w5 (w7.setCell ⟨g, 4, none⟩ (.slice A7 n7 c7)) g D tag txt key sa attrs A7 n7 c7 (l ++ [k]) Q ∧ But (fun b => b = g ∨ (Value.slice A n c).ownBlock = some b) w5 (w7.setCell ⟨g, 4, none⟩ (.slice A7 n7 c7)) := by
  have b7 : But (fun b => (Value.slice A n c).ownBlock = some b) w5 w7 := (But.alloc (But.refl _ _) _).trans (But.of_grown (S := fun i => (Value.slice A n c).ownBlock = some i) hg (fun i hi _ => hi)) (fun _ _ h => h)
  have hne : (Value.slice A n c).ownBlock ≠ some g := fun e => by have := (own.lt e).1; omega
  have t7 : TB w7 g (.mk tag txt key sa attrs ⟨A, n, c⟩ l) := (b7.block g tb.lt hne).trans tb
  have b8 : But (fun b => b = g ∨ (Value.slice A n c).ownBlock = some b) w5 (w7.setCell ⟨g, 4, none⟩ (.slice A7 n7 c7)) := But.setCell (b7.mono fun _ _ hi => .inr hi) (fun _ => .inl rfl) _
  have hS : ∀ b, (b = g ∨ (Value.slice A n c).ownBlock = some b) → ∃ cur, w5.heap[b]? = some (.cells cur 38 (0, 0)) := by
    rintro b (rfl | e)
    · exact ⟨_, tb⟩
    · exact own.ty e
  have key' : ∀ k : TV, TNew w5 (fun b => Q b ∧ (Value.slice A n c).ownBlock ≠ some b) k → TNew (w7.setCell ⟨g, 4, none⟩ (.slice A7 n7 c7)) (fun b => Q b ∧ (Value.slice A7 n7 c7).ownBlock ≠ some b) k := by
    intro k h
    have h1 : TNew w5 (fun b => (Q b ∧ (Value.slice A n c).ownBlock ≠ some b) ∧ b < w5.heap.size) k := h.mono fun b hb hq => ⟨hq, hb⟩
    refine (h1.but b8 (fun b hq hs => ?_) (tree_noA hS)).mono fun b _ hq => ⟨hq.1.1, fun e => ?_⟩
    · rcases hs with e | e
      · exact hQ b hq.1.1 e
      · exact hq.1.2 e
    · rcases hat with h2 | h2
      · exact hq.1.2 (h2 ▸ e)
      · rw [h2] at e
        injection e with e
        have := hq.2
        simp at e
        omega
  refine ⟨⟨?_, ?_, fun k hk2 => ?_⟩, b8⟩
  · exact heap_set t7 4 _
  · refine hown.keep (fun b hb => Below.heap_setCell _ _ _ _ ?_)
    rintro rfl
    have := (hown.lt hb).1
    omega
  · rcases List.mem_append.1 hk2 with h | h
    · exact key' k (ks k h)
    · rw [List.mem_singleton.1 h]; exact key' _ hk
end Go.Proofs.Ytbdcbjeeaebfeaa.P8
