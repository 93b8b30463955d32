/- What placketref11.Put answers, of instructions that may be. No condition but those stated. -/
import Derived.Test.YtcdcgdblchchkaaM2
import Derived.Test.YtcdcgdblchchkaaM6
set_option linter.unusedVariables false
set_option linter.unusedSimpArgs false
set_option linter.unusedVariables false
set_option linter.unusedSimpArgs false
namespace Go.Proofs.Ytcdcgdblchchkaa.P12
open Go.RowKit Kd P4 P11

theorem insH_len {i : In} (h : mayI i = true) : (insH i).length ≤ 123 := by
  obtain ⟨h1, h2, _⟩ := may_small h
  have ea := len_size i.a
  have eb := len_size i.b
  simp only [insH, List.length_cons, List.length_append]
  split <;> split <;> simp [textH] <;> omega
theorem putI_len : ∀ {l : List In}, (∀ i ∈ l, mayI i = true) → (putI l).length ≤ 123 * l.length
  | [], _ => by simp [putI]
  | i :: l, h => by
    have h1 := insH_len (h i (by simp))
    have h2 := putI_len (l := l) (fun k hk => h k (by simp [hk]))
    rw [putI_cons, List.length_append, List.length_cons]
    omega
theorem putI_snoc {l : List In} {k : Nat} (h : k < l.length) : putI (l.take (k + 1)) = putI (l.take k) ++ insH l[k] := by
  rw [List.take_add_one, List.getElem?_eq_getElem h]
  unfold putI
  rw [List.flatMap_append]
  simp
end Go.Proofs.Ytcdcgdblchchkaa.P12

/- What placketref11.one answers. No condition but those stated. -/
set_option linter.unusedVariables false
set_option linter.unusedSimpArgs false
namespace Go.Proofs.Ytcdcgdblchchkaa.P12
open Go.RowKit Kd P4 P11

def contK : Nat → Nat → In → List UInt8 → Option (In × List UInt8)
  | 0, _, i, r => some (i, r)
  | k + 1, m, i, r => match cut1 r with
    | none => none
    | some (t, r1) => contK k (m + 1) (if m = 0 then ⟨i.op, bs t, i.b⟩ else ⟨i.op, i.a, bs t⟩) r1
theorem cand_cont (c : UInt8) (r : List UInt8) : candI c r = contK (textsN c.toNat) 0 ⟨c.toNat, bs [], bs []⟩ r := by
  unfold candI
  rcases textsN_cases (c.toNat : Int) with e | e | e
  · rw [e, if_pos rfl, contK]
  · rw [e, if_neg (by decide), contK]
    cases cut1 r with
    | none => rfl
    | some p => rfl
  · rw [e, if_neg (by decide), contK]
    cases cut1 r with
    | none => rfl
    | some p =>
      obtain ⟨t, r1⟩ := p
      simp only
      rw [if_neg (by decide), contK]
      cases cut1 r1 with
      | none => rfl
      | some p2 => rfl
theorem textsN_le (op : Int) : textsN op ≤ 2 := by rcases textsN_cases op with e | e | e <;> omega
def zX : In := ⟨0, ⟨#[]⟩, ⟨#[]⟩⟩
def OneV (w : World) (n : Nat) (p : Option (In × List UInt8)) (e : Ending) (w' : World) : Prop :=
  (p = none ∧ e = .returned (.tuple #[.agg #[.int .i64 0, .string ⟨#[]⟩, .string ⟨#[]⟩], .int .i64 0]) ∨ ∃ i r, p = some (i, r) ∧ e = .returned (.tuple #[.agg #[.int .i64 i.op, .string i.a, .string i.b], .int .i64 ((n : Int) - (r.length : Nat))])) ∧ Below w.heap.size w w'
theorem x_end {w wr : World} {v0 v1 v2 : Value} (hb : Below w.heap.size w wr) : Below w.heap.size w (((wr.setCell ⟨w.heap.size, 0, none⟩ v0).setCell ⟨w.heap.size, 1, none⟩ v1).setCell ⟨w.heap.size, 2, none⟩ v2) :=
  ((hb.setCell (p := ⟨w.heap.size, 0, none⟩) (Nat.le_refl _) _).setCell (p := ⟨w.heap.size, 1, none⟩) (Nat.le_refl _) _).setCell (p := ⟨w.heap.size, 2, none⟩) (Nat.le_refl _) _
/-- the state of one's loop -/
def ORel (w : World) (g : Nat) (c : UInt8) (r : List UInt8) (l : List UInt8) (n : Nat) (s5 s6 : Value) (wr : World) : Prop := ∃ (m at' : Nat) (i : In), m ≤ textsN c.toNat ∧ s6 = .int .i64 m ∧ s5 = .int .i64 at' ∧ at' ≤ n ∧ i.op = c.toNat ∧ i.a.size ≤ 255 ∧ i.b.size ≤ 255 ∧
  Hid (candI c r = contK (textsN c.toNat - m) m i (l.drop at')) ∧ Hid (XB wr g i) ∧ Hid (XB wr w.heap.size zX) ∧ Hid (Below w.heap.size w wr)
theorem cut_at {l : List UInt8} {p : Nat} (h : p < l.length) : cut1 (l.drop p) = if l.length < p + 1 + l[p].toNat then none else some ((l.drop (p + 1)).take l[p].toNat, l.drop (p + 1 + l[p].toNat)) := by
  rw [List.drop_eq_getElem_cons h, cut1, List.length_drop, List.drop_drop]
  by_cases hs : l.length < p + 1 + l[p].toNat
  · rw [if_pos (by omega), if_pos hs]
  · rw [if_neg (by omega), if_neg hs]
end Go.Proofs.Ytcdcgdblchchkaa.P12

/- What placketref11.Get answers. No condition but those stated. -/
set_option linter.unusedVariables false
set_option linter.unusedSimpArgs false
namespace Go.Proofs.Ytcdcgdblchchkaa.P12
open Go.RowKit Kd P4 P11

/-- instructions of one's own, and a number -/
def Xv (w : World) (p : List In × Nat) (e : Ending) (w' : World) : Prop := ∃ (A : Option Addr) (n c : Nat) (l : List In), e = .returned (.tuple #[.slice A n c, .int .i64 (p.2 : Nat)]) ∧ l = p.1 ∧ kX.Own w' w.heap.size (.slice A n c) l ∧ Below w.heap.size w w'
theorem xv_none {w w' : World} {p : List In × Nat} {k : Nat} (h : p = ([], k)) (hb : Below w.heap.size w w') : Xv w p (.returned (.tuple #[.slice none 0 0, .int .i64 (k : Nat)])) w' := by
  subst h
  exact ⟨none, 0, 0, [], rfl, rfl, Kind.Own.nil kX w' _, hb⟩
theorem ownX_len {w : World} {B : Nat} {A : Option Addr} {n c : Nat} {l : List In} (h : kX.Own w B (.slice A n c) l) : l.length = n := by
  obtain ⟨A', n', c', hv, e1, e2, e3, e4, e5⟩ := h.slice
  injection hv with h1 h2 h3
  rw [e1, ← h2]
end Go.Proofs.Ytcdcgdblchchkaa.P12

/- What placketref11.Same and the law's Few answer. No condition but those stated. -/
set_option linter.unusedVariables false
set_option linter.unusedSimpArgs false
namespace Go.Proofs.Ytcdcgdblchchkaa.P12
open Go.RowKit Kd P4 P11

theorem eqgX : Try.prog.eqGuardType Try.prog.depth 59 = false := by kernel_rfl
theorem heldX : Try.prog.stoodInHeld 59 = false := by kernel_rfl
def inB (a b : In) : Bool := a.op == b.op && a.a.toList == b.a.toList && a.b.toList == b.b.toList
def sameI : List In → List In → Bool
  | [], [] => true
  | a :: l, b :: m => inB a b && sameI l m
  | _, _ => false
theorem inB_refl (a : In) : inB a a = true := by simp [inB]
theorem sameI_refl : ∀ l : List In, sameI l l = true
  | [] => rfl
  | a :: l => by rw [sameI, inB_refl, sameI_refl l]; rfl
theorem sameI_len : ∀ {l m : List In}, l.length ≠ m.length → sameI l m = false
  | [], [], h => absurd rfl h
  | [], _ :: _, _ => rfl
  | _ :: _, [], _ => rfl
  | a :: l, b :: m, h => by rw [sameI, sameI_len (l := l) (m := m) (by simpa using h), Bool.and_false]
theorem sameI_bad : ∀ {l m : List In} {k : Nat} (h : k < l.length) (h' : k < m.length), inB l[k] m[k] = false → sameI l m = false
  | [], _, _, h, _, _ => by simp at h
  | _ :: _, [], _, _, h, _ => by simp at h
  | a :: l, b :: m, 0, _, _, e => by simp only [List.getElem_cons_zero] at e; rw [sameI, e, Bool.false_and]
  | a :: l, b :: m, k + 1, h, h', e => by simp only [List.getElem_cons_succ] at e; rw [sameI, sameI_bad (by simpa using h) (by simpa using h') e, Bool.and_false]
theorem sameI_all : ∀ {l m : List In}, l.length = m.length → (∀ k (h : k < l.length) (h' : k < m.length), inB l[k] m[k] = true) → sameI l m = true
  | [], [], _, _ => rfl
  | [], _ :: _, h, _ => by simp at h
  | _ :: _, [], h, _ => by simp at h
  | a :: l, b :: m, h, k => by
    have h0 := k 0 (by simp) (by simp)
    simp only [List.getElem_cons_zero] at h0
    rw [sameI, h0, sameI_all (by simpa using h) (fun j h1 h2 => by have := k (j + 1) (by simpa using h1) (by simpa using h2); simpa using this)]
    rfl
theorem eq_runX (a b : In) (d : Nat) (w : World) : (Op.equalIn (d + 2) 59 (.agg #[.int .i64 a.op, .string a.a, .string a.b]) (.agg #[.int .i64 b.op, .string b.a, .string b.b])).run Try.prog w = .ok (inB a b) w := by
  rw [run_equalIn_struct w (d + 1) 59 _ _ (by unfold Program.fieldsOf; rw [Try.underlying59]) heldX]
  simp [Program.fieldsOf, Try.underlying59, Op.eqFields, go_sem, Try.underlying9, Try.underlying3, part]
  unfold inB
  by_cases h1 : a.op = b.op <;> by_cases h2 : a.a.toList = b.a.toList <;> by_cases h3 : a.b.toList = b.b.toList <;> simp [h1, h2, h3]
theorem neq_atX {a b : In} {r : Bool} (h : inB a b = r) (w : World) : (binOp .neq 59 (.agg #[.int .i64 a.op, .string a.a, .string a.b]) (.agg #[.int .i64 b.op, .string b.a, .string b.b])).run Try.prog w = .ok (.bool (!r)) w := by
  rw [run_neq_struct, eq_runX a b 9998 w, h]; rfl
def SameTo (l m : List In) (k : Nat) : Prop := ∀ j (h : j < l.length) (h' : j < m.length), j < k → inB l[j] m[j] = true
/-! ### Few -/
def fewX (l : List In) : Bool := decide (l.length ≤ 150) && l.all (fun i => decide (i.a.size ≤ 300) && decide (i.b.size ≤ 300))
def shortX (i : In) : Bool := decide (i.a.size ≤ 300) && decide (i.b.size ≤ 300)
/-- what Few tells: 1 at most where there are few, and short -/
def FewV (w : World) (l : List In) (e : Ending) (w' : World) : Prop := (e = .returned (.int .i64 0) ∨ (e = .returned (.int .i64 1) ∧ l.length ≤ 150 ∧ ∀ i ∈ l, i.a.size ≤ 300 ∧ i.b.size ≤ 300)) ∧ w = w'
def ShortTo (l : List In) (k : Nat) : Prop := ∀ j (h : j < l.length), j < k → l[j].a.size ≤ 300 ∧ l[j].b.size ≤ 300
set_option maxRecDepth 100000 in
set_option maxHeartbeats 2000000 in
theorem fewX_any (l : List In) (A : Option Addr) (n c : Nat) (w : World) (hn : l.length = n) (hl : n ≤ maxLen) (H : kX.Holds w w.heap.size A l) : Calls Try.prog 11 #[.slice A n c] w (FewV w l) := by
  have HH := Lib.hid H
  have HN := Lib.hid hn
  unfold maxLen at hl
  clear H hn
  go_enter Try.func11, Try.ntmps11
  go_wp2_with fail
  go_loopw [3] (fun i wr => ∃ k : Nat, k ≤ n ∧ k ≤ 150 ∧ i = .int .i64 k ∧ Hid (wr = w) ∧ Hid (ShortTo l k)) (fun i _ => 150 - (intOf i).toNat)
  case atStart => exact ⟨0, by omega, by omega, rfl, Lib.hid rfl, Lib.hid (fun j _ h => by omega)⟩
  case round =>
    obtain ⟨k, hk, hk2, rfl, HW, HS⟩ := hrel
    obtain rfl := HW.out
    by_cases hlt : k < n
    · by_cases h150 : k < 150
      · have hlt1 : k < l.length := by have := HN.out; omega
        obtain ⟨b, o, rfl, hb, h0, h1, h2⟩ := cell_of_ins HH.out hlt1
        have NX : Hid (l[k].a.size ≤ 300 → l[k].b.size ≤ 300 → ShortTo l (k + 1)) := Lib.hid (fun ha hb j hj h => by
          rcases Nat.lt_or_ge j k with e | e
          · exact HS.out j hj e
          · obtain rfl : j = k := by omega
            exact ⟨ha, hb⟩)
        generalize l[k] = d at h0 h1 h2 NX
        by_cases ha : d.a.size ≤ 300
        · by_cases hbb : d.b.size ≤ 300
          · have q1 : decide ((300 : Int) < (d.a.size : Int)) = false := by simp; omega
            have q2 : decide ((300 : Int) < (d.b.size : Int)) = false := by simp; omega
            have NX2 := Lib.hid (NX.out ha hbb)
            clear NX
            go_wp2_with fail
            go_roundw
            case rel => exact ⟨k + 1, by omega, by omega, by go_num, Lib.hid (by first | trivial | rfl), NX2⟩
            case measure => simp [intOf]; omega
          · have q1 : decide ((300 : Int) < (d.a.size : Int)) = false := by simp; omega
            have q2 : decide ((300 : Int) < (d.b.size : Int)) = true := by simp; omega
            go_wp2_with fail
            go_ret
            exact ⟨.inl rfl, by first | trivial | rfl⟩
        · have q1 : decide ((300 : Int) < (d.a.size : Int)) = true := by simp; omega
          go_wp2_with fail
          go_ret
          exact ⟨.inl rfl, by first | trivial | rfl⟩
      · obtain rfl : k = 150 := by omega
        have q1 : decide ((150 : Int) < (n : Int)) = true := by simp; omega
        go_wp2_with fail
        go_ret
        exact ⟨.inl rfl, by first | trivial | rfl⟩
    · obtain rfl : k = n := by omega
      have q1 : decide ((150 : Int) < (k : Int)) = false := by simp; omega
      go_wp2_with fail
      go_ret
      refine ⟨.inr ⟨rfl, by have := HN.out; omega, fun i hi => ?_⟩, by first | trivial | rfl⟩
      obtain ⟨j, hj, rfl⟩ := List.mem_iff_getElem.1 hi
      exact HS.out j hj (by have := HN.out; omega)
end Go.Proofs.Ytcdcgdblchchkaa.P12
