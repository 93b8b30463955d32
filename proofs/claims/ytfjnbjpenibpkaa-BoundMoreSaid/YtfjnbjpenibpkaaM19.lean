/- What placketref11.Put answers, of instructions that may be. No condition but those stated. -/
import Derived.Test.YtfjnbjpenibpkaaM10
set_option linter.unusedVariables false
set_option linter.unusedSimpArgs false
set_option linter.unusedVariables false
set_option linter.unusedSimpArgs false
namespace Go.Proofs.Ytfjnbjpenibpkaa.P12
open Go.RowKit Kd P4 P11

theorem insH_len {i : In} (h : mayI i = true) : (insH i).length ≤ 123 := by
  obtain ⟨h1, h2, _⟩ := may_small h
  have ea := len_size i.a
  have eb := len_size i.b
  simp only [insH, List.length_cons, List.length_append]
  split <;> split <;> simp [textH] <;> omega
theorem putI_len : ∀ {l : List In}, (∀ i ∈ l, mayI i = true) → (putI l).length ≤ 123 * l.length
  | [], _ => by simp [putI]
  | i :: l, h => by
    have h1 := insH_len (h i (by simp))
    have h2 := putI_len (l := l) (fun k hk => h k (by simp [hk]))
    rw [putI_cons, List.length_append, List.length_cons]
    omega
theorem putI_snoc {l : List In} {k : Nat} (h : k < l.length) : putI (l.take (k + 1)) = putI (l.take k) ++ insH l[k] := by
  rw [List.take_add_one, List.getElem?_eq_getElem h]
  unfold putI
  rw [List.flatMap_append]
  simp
end Go.Proofs.Ytfjnbjpenibpkaa.P12

/- What placketref11.one answers. No condition but those stated. -/
set_option linter.unusedVariables false
set_option linter.unusedSimpArgs false
namespace Go.Proofs.Ytfjnbjpenibpkaa.P12
open Go.RowKit Kd P4 P11

def contK : Nat → Nat → In → List UInt8 → Option (In × List UInt8)
  | 0, _, i, r => some (i, r)
  | k + 1, m, i, r => match cut1 r with
    | none => none
    | some (t, r1) => contK k (m + 1) (if m = 0 then ⟨i.op, bs t, i.b⟩ else ⟨i.op, i.a, bs t⟩) r1
theorem cand_cont (c : UInt8) (r : List UInt8) : candI c r = contK (textsN c.toNat) 0 ⟨c.toNat, bs [], bs []⟩ r := by
  unfold candI
  rcases textsN_cases (c.toNat : Int) with e | e | e
  · rw [e, if_pos rfl, contK]
  · rw [e, if_neg (by decide), contK]
    cases cut1 r with
    | none => rfl
    | some p => rfl
  · rw [e, if_neg (by decide), contK]
    cases cut1 r with
    | none => rfl
    | some p =>
      obtain ⟨t, r1⟩ := p
      simp only
      rw [if_neg (by decide), contK]
      cases cut1 r1 with
      | none => rfl
      | some p2 => rfl
theorem textsN_le (op : Int) : textsN op ≤ 2 := by rcases textsN_cases op with e | e | e <;> omega
def zX : In := ⟨0, ⟨#[]⟩, ⟨#[]⟩⟩
def OneV (w : World) (n : Nat) (p : Option (In × List UInt8)) (e : Ending) (w' : World) : Prop :=
  (p = none ∧ e = .returned (.tuple #[.agg #[.int .i64 0, .string ⟨#[]⟩, .string ⟨#[]⟩], .int .i64 0]) ∨ ∃ i r, p = some (i, r) ∧ e = .returned (.tuple #[.agg #[.int .i64 i.op, .string i.a, .string i.b], .int .i64 ((n : Int) - (r.length : Nat))])) ∧ Below w.heap.size w w'
theorem x_end {w wr : World} {v0 v1 v2 : Value} (hb : Below w.heap.size w wr) : Below w.heap.size w (((wr.setCell ⟨w.heap.size, 0, none⟩ v0).setCell ⟨w.heap.size, 1, none⟩ v1).setCell ⟨w.heap.size, 2, none⟩ v2) :=
  ((hb.setCell (p := ⟨w.heap.size, 0, none⟩) (Nat.le_refl _) _).setCell (p := ⟨w.heap.size, 1, none⟩) (Nat.le_refl _) _).setCell (p := ⟨w.heap.size, 2, none⟩) (Nat.le_refl _) _
/-- the state of one's loop -/
def ORel (w : World) (g : Nat) (c : UInt8) (r : List UInt8) (l : List UInt8) (n : Nat) (s5 s6 : Value) (wr : World) : Prop := ∃ (m at' : Nat) (i : In), m ≤ textsN c.toNat ∧ s6 = .int .i64 m ∧ s5 = .int .i64 at' ∧ at' ≤ n ∧ i.op = c.toNat ∧ i.a.size ≤ 255 ∧ i.b.size ≤ 255 ∧
  Hid (candI c r = contK (textsN c.toNat - m) m i (l.drop at')) ∧ Hid (XB wr g i) ∧ Hid (XB wr w.heap.size zX) ∧ Hid (Below w.heap.size w wr)
theorem cut_at {l : List UInt8} {p : Nat} (h : p < l.length) : cut1 (l.drop p) = if l.length < p + 1 + l[p].toNat then none else some ((l.drop (p + 1)).take l[p].toNat, l.drop (p + 1 + l[p].toNat)) := by
  rw [List.drop_eq_getElem_cons h, cut1, List.length_drop, List.drop_drop]
  by_cases hs : l.length < p + 1 + l[p].toNat
  · rw [if_pos (by omega), if_pos hs]
  · rw [if_neg (by omega), if_neg hs]
end Go.Proofs.Ytfjnbjpenibpkaa.P12

/- What placketref11.Get answers. No condition but those stated. -/
set_option linter.unusedVariables false
set_option linter.unusedSimpArgs false
namespace Go.Proofs.Ytfjnbjpenibpkaa.P12
open Go.RowKit Kd P4 P11

/-- instructions of one's own, and a number -/
def Xv (w : World) (p : List In × Nat) (e : Ending) (w' : World) : Prop := ∃ (A : Option Addr) (n c : Nat) (l : List In), e = .returned (.tuple #[.slice A n c, .int .i64 (p.2 : Nat)]) ∧ l = p.1 ∧ kX.Own w' w.heap.size (.slice A n c) l ∧ Below w.heap.size w w'
theorem xv_none {w w' : World} {p : List In × Nat} {k : Nat} (h : p = ([], k)) (hb : Below w.heap.size w w') : Xv w p (.returned (.tuple #[.slice none 0 0, .int .i64 (k : Nat)])) w' := by
  subst h
  exact ⟨none, 0, 0, [], rfl, rfl, Kind.Own.nil kX w' _, hb⟩
theorem ownX_len {w : World} {B : Nat} {A : Option Addr} {n c : Nat} {l : List In} (h : kX.Own w B (.slice A n c) l) : l.length = n := by
  obtain ⟨A', n', c', hv, e1, e2, e3, e4, e5⟩ := h.slice
  injection hv with h1 h2 h3
  rw [e1, ← h2]
end Go.Proofs.Ytfjnbjpenibpkaa.P12
