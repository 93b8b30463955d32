/- A document as it lies in memory: its own block, its arena's, its list of identities, each node's block and lists; what a call may have turned. No condition. -/
import Derived.Test.YtfjnbjpenibpkaaM3
import Derived.Test.YtfjnbjpenibpkaaM12
import Derived.Test.YtfjnbjpenibpkaaM15
set_option linter.unusedVariables false
set_option linter.unusedSimpArgs false
set_option linter.unusedVariables false
set_option linter.unusedSimpArgs false
namespace Go.Proofs.Ytfjnbjpenibpkaa.P5
open Go.RowKit Kd P4

/-! ### Attributes that are read -/
structure AOk (w : World) (s : Sv) (l : List P3.At) : Prop where
  len : l.length = s.n
  cap : s.n ≤ s.c
  cm : s.c ≤ maxLen
  nil : s.A = none → s.c = 0
  holds : kA.Holds w w.heap.size s.A l
  ty : ∀ b o, s.A = some ⟨b, o, none⟩ → l ≠ [] → ∃ cur fr, w.heap[b]? = some (.cells cur 75 fr)
/-- none of these blocks is one of attributes -/
def NoA (w : World) (S : Nat → Prop) : Prop := ∀ k cur fr, S k → w.heap[k]? ≠ some (.cells cur 75 fr)
theorem NoA.none (w : World) : NoA w (fun _ => False) := fun _ _ _ h => h.elim
section
variable {w w' : World} {s : Sv} {l : List P3.At}
theorem AOk.but {S : Nat → Prop} (h : AOk w s l) (hb : But S w w') (hS : NoA w S) : AOk w' s l := by
  have key : ∀ b o, s.A = some ⟨b, o, Option.none⟩ → l ≠ [] → w'.heap[b]? = w.heap[b]? := by
    intro b o hA hl
    obtain ⟨cur, fr, hc⟩ := h.ty b o hA hl
    exact hb.block b (heap_lt hc) (fun hs => hS b cur fr hs hc)
  refine ⟨h.len, h.cap, h.cm, h.nil, ?_, fun b o hA hl => ?_⟩
  · cases l with
    | nil => exact Kind.Holds.nil _ _ _
    | cons a r => exact (h.holds.keep fun b ⟨o, hA⟩ _ => key b o hA (by simp)).more hb.size
  · obtain ⟨cur, fr, hc⟩ := h.ty b o hA hl
    exact ⟨cur, fr, (key b o hA hl).trans hc⟩
theorem AOk.below (h : AOk w s l) (hb : Below w.heap.size w w') : AOk w' s l := h.but (But.of_below hb (fun _ => False)) (NoA.none w)
theorem AOk.nil_ (w : World) : AOk w ⟨Option.none, 0, 0⟩ [] := ⟨rfl, Nat.le_refl _, by simp [maxLen], fun _ => rfl, Kind.Holds.nil _ _ _, fun _ _ h => by cases h⟩
theorem AOk.own {B : Nat} {v : Value} (h : kA.Own w B v l) : ∃ s : Sv, v = s.val ∧ AOk w s l := by
  obtain ⟨A, n, c, rfl, h1, h2, h3, h4, h5⟩ := h.slice
  refine ⟨⟨A, n, c⟩, rfl, h1, h2, h3, h4, h5, fun b o hA hl => ?_⟩
  simp only at hA
  subst hA
  rcases h.form with ⟨hv, rfl⟩ | ⟨g, c', cur, hv, _, _, _, hh, _⟩
  · exact absurd rfl hl
  · injection hv with e1
    injection e1 with e1
    injection e1 with e1
    subst e1
    exact ⟨cur, _, hh⟩
theorem AOk.drewN (h : AOk w s l) (n : Nat) : AOk (w.drewN n) s l := ⟨h.len, h.cap, h.cm, h.nil, h.holds, h.ty⟩
/-- as layer 3 says it -/
theorem p3holds {B : Nat} {A : Option Addr} (h : kA.Holds w B A l) : P3.Holds w B A l := by
  intro k hk
  obtain ⟨b, o, hA, hb, hc⟩ := h.at hk
  exact ⟨b, o, hA, hb, hc 0 _ rfl, hc 1 _ rfl, hc 2 _ rfl⟩
end

/-! ### A document -/
/-- a node: its block, its two lists -/
structure Rw where
  b : Nat
  va : Sv
  vk : Sv
  nd : Nd
def Nd.cells (nd : Nd) (va vk : Sv) : Array Value := #[.int .i64 nd.id, .int .i64 nd.par, .string nd.tag, .string nd.txt, .string nd.key, va.val, vk.val, .int .i64 nd.note]
def slotOf (r : Rw) : Sl Nat := ⟨r.nd.id, r.b⟩
/-- a document: its arena's block, the slots and the identities, room, the last identity, the focus, its nodes -/
structure Dx where
  a : Nat
  v : Value
  vi : Value
  R : Nat
  n : Int
  foc : Int
  rs : List Rw
def Dx.l (x : Dx) : List Nd := x.rs.map (·.nd)
def Dx.d (x : Dx) : D := ⟨x.l, x.n, x.R, x.foc⟩
def foot (p : Nat) (x : Dx) (k : Nat) : Prop := k = p ∨ k = x.a ∨ x.v.ownBlock = some k ∨ x.vi.ownBlock = some k ∨ ∃ r ∈ x.rs, k = r.b ∨ r.vk.val.ownBlock = some k
section
variable {w w' : World} {B p : Nat} {x : Dx}
theorem l_len (x : Dx) : x.l.length = x.rs.length := by simp [Dx.l]
theorem l_at (x : Dx) {k : Nat} (hk : k < x.rs.length) : x.l[k]'(by rw [l_len]; exact hk) = x.rs[k].nd := by simp [Dx.l]
/-! ### What a call has done to a document -/
theorem mem_set_ {α : Type} {l : List α} {k : Nat} {r s : α} (h : s ∈ l.set k r) : s = r ∨ ∃ j, ∃ hj : j < l.length, k ≠ j ∧ s = l[j] := by
  obtain ⟨j, hj, rfl⟩ := List.mem_iff_getElem.1 h
  rw [List.getElem_set]
  split
  · exact .inl rfl
  · rename_i e
    exact .inr ⟨j, by simpa using hj, e, rfl⟩
/-- one node is another, in the same block -/
def Dx.put (x : Dx) (k : Nat) (r : Rw) : Dx := { x with rs := x.rs.set k r }
end
end Go.Proofs.Ytfjnbjpenibpkaa.P5
