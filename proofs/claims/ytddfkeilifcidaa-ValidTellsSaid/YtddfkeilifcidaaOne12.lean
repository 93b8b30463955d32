/- What placketref11.one answers. No condition but those stated. -/
import Derived.Test.YtddfkeilifcidaaRput12
set_option linter.unusedVariables false
set_option linter.unusedSimpArgs false
namespace Go.Proofs.Ytddfkeilifcidaa.P12
open Go.RowKit Kd P4 P11

def contK : Nat → Nat → In → List UInt8 → Option (In × List UInt8)
  | 0, _, i, r => some (i, r)
  | k + 1, m, i, r => match cut1 r with
    | none => none
    | some (t, r1) => contK k (m + 1) (if m = 0 then ⟨i.op, bs t, i.b⟩ else ⟨i.op, i.a, bs t⟩) r1
theorem cand_cont (c : UInt8) (r : List UInt8) : candI c r = contK (textsN c.toNat) 0 ⟨c.toNat, bs [], bs []⟩ r := by
  unfold candI
  rcases textsN_cases (c.toNat : Int) with e | e | e
  · rw [e, if_pos rfl, contK]
  · rw [e, if_neg (by decide), contK]
    cases cut1 r with
    | none => rfl
    | some p => rfl
  · rw [e, if_neg (by decide), contK]
    cases cut1 r with
    | none => rfl
    | some p =>
      obtain ⟨t, r1⟩ := p
      simp only
      rw [if_neg (by decide), contK]
      cases cut1 r1 with
      | none => rfl
      | some p2 => rfl
theorem textsN_le (op : Int) : textsN op ≤ 2 := by rcases textsN_cases op with e | e | e <;> omega
def zX : In := ⟨0, ⟨#[]⟩, ⟨#[]⟩⟩
def OneV (w : World) (n : Nat) (p : Option (In × List UInt8)) (e : Ending) (w' : World) : Prop :=
  (p = none ∧ e = .returned (.tuple #[.agg #[.int .i64 0, .string ⟨#[]⟩, .string ⟨#[]⟩], .int .i64 0]) ∨ ∃ i r, p = some (i, r) ∧ e = .returned (.tuple #[.agg #[.int .i64 i.op, .string i.a, .string i.b], .int .i64 ((n : Int) - (r.length : Nat))])) ∧ Below w.heap.size w w'
theorem x_end {w wr : World} {v0 v1 v2 : Value} (hb : Below w.heap.size w wr) : Below w.heap.size w (((wr.setCell ⟨w.heap.size, 0, none⟩ v0).setCell ⟨w.heap.size, 1, none⟩ v1).setCell ⟨w.heap.size, 2, none⟩ v2) :=
  ((hb.setCell (p := ⟨w.heap.size, 0, none⟩) (Nat.le_refl _) _).setCell (p := ⟨w.heap.size, 1, none⟩) (Nat.le_refl _) _).setCell (p := ⟨w.heap.size, 2, none⟩) (Nat.le_refl _) _
/-- the state of one's loop -/
def ORel (w : World) (g : Nat) (c : UInt8) (r : List UInt8) (l : List UInt8) (n : Nat) (s5 s6 : Value) (wr : World) : Prop := ∃ (m at' : Nat) (i : In), m ≤ textsN c.toNat ∧ s6 = .int .i64 m ∧ s5 = .int .i64 at' ∧ at' ≤ n ∧ i.op = c.toNat ∧ i.a.size ≤ 255 ∧ i.b.size ≤ 255 ∧
  Hid (candI c r = contK (textsN c.toNat - m) m i (l.drop at')) ∧ Hid (XB wr g i) ∧ Hid (XB wr w.heap.size zX) ∧ Hid (Below w.heap.size w wr)
theorem cut_at {l : List UInt8} {p : Nat} (h : p < l.length) : cut1 (l.drop p) = if l.length < p + 1 + l[p].toNat then none else some ((l.drop (p + 1)).take l[p].toNat, l.drop (p + 1 + l[p].toNat)) := by
  rw [List.drop_eq_getElem_cons h, cut1, List.length_drop, List.drop_drop]
  by_cases hs : l.length < p + 1 + l[p].toNat
  · rw [if_pos (by omega), if_pos hs]
  · rw [if_neg (by omega), if_neg hs]
end Go.Proofs.Ytddfkeilifcidaa.P12
