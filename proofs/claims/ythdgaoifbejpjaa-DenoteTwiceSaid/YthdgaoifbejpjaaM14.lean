/- What placketref11.Put answers, of instructions that may be. No condition but those stated. -/
import Derived.Deep.RegionHeld3
import Derived.Laws.OwnMore
import Derived.Deep.Cut
import Derived.Test.YthdgaoifbejpjaaM2
import Derived.Test.YthdgaoifbejpjaaM5
import Derived.Test.YthdgaoifbejpjaaM8
import Derived.Test.YthdgaoifbejpjaaM9
import Derived.Test.YthdgaoifbejpjaaM10
import Derived.Test.YthdgaoifbejpjaaM11
import Derived.Test.YthdgaoifbejpjaaM12
set_option linter.unusedVariables false
set_option linter.unusedSimpArgs false
set_option linter.unusedVariables false
set_option linter.unusedSimpArgs false
namespace Go.Proofs.Ythdgaoifbejpjaa.P12
open Go.RowKit Kd P4 P11

theorem insH_len {i : In} (h : mayI i = true) : (insH i).length ≤ 123 := by
  obtain ⟨h1, h2, _⟩ := may_small h
  have ea := len_size i.a
  have eb := len_size i.b
  simp only [insH, List.length_cons, List.length_append]
  split <;> split <;> simp [textH] <;> omega
theorem putI_len : ∀ {l : List In}, (∀ i ∈ l, mayI i = true) → (putI l).length ≤ 123 * l.length
  | [], _ => by simp [putI]
  | i :: l, h => by
    have h1 := insH_len (h i (by simp))
    have h2 := putI_len (l := l) (fun k hk => h k (by simp [hk]))
    rw [putI_cons, List.length_append, List.length_cons]
    omega
theorem putI_snoc {l : List In} {k : Nat} (h : k < l.length) : putI (l.take (k + 1)) = putI (l.take k) ++ insH l[k] := by
  rw [List.take_add_one, List.getElem?_eq_getElem h]
  unfold putI
  rw [List.flatMap_append]
  simp
end Go.Proofs.Ythdgaoifbejpjaa.P12

/- What placketref11.one answers. No condition but those stated. -/
set_option linter.unusedVariables false
set_option linter.unusedSimpArgs false
namespace Go.Proofs.Ythdgaoifbejpjaa.P12
open Go.RowKit Kd P4 P11

def contK : Nat → Nat → In → List UInt8 → Option (In × List UInt8)
  | 0, _, i, r => some (i, r)
  | k + 1, m, i, r => match cut1 r with
    | none => none
    | some (t, r1) => contK k (m + 1) (if m = 0 then ⟨i.op, bs t, i.b⟩ else ⟨i.op, i.a, bs t⟩) r1
theorem cand_cont (c : UInt8) (r : List UInt8) : candI c r = contK (textsN c.toNat) 0 ⟨c.toNat, bs [], bs []⟩ r := by
  unfold candI
  rcases textsN_cases (c.toNat : Int) with e | e | e
  · rw [e, if_pos rfl, contK]
  · rw [e, if_neg (by decide), contK]
    cases cut1 r with
    | none => rfl
    | some p => rfl
  · rw [e, if_neg (by decide), contK]
    cases cut1 r with
    | none => rfl
    | some p =>
      obtain ⟨t, r1⟩ := p
      simp only
      rw [if_neg (by decide), contK]
      cases cut1 r1 with
      | none => rfl
      | some p2 => rfl
theorem textsN_le (op : Int) : textsN op ≤ 2 := by rcases textsN_cases op with e | e | e <;> omega
def zX : In := ⟨0, ⟨#[]⟩, ⟨#[]⟩⟩
def OneV (w : World) (n : Nat) (p : Option (In × List UInt8)) (e : Ending) (w' : World) : Prop :=
  (p = none ∧ e = .returned (.tuple #[.agg #[.int .i64 0, .string ⟨#[]⟩, .string ⟨#[]⟩], .int .i64 0]) ∨ ∃ i r, p = some (i, r) ∧ e = .returned (.tuple #[.agg #[.int .i64 i.op, .string i.a, .string i.b], .int .i64 ((n : Int) - (r.length : Nat))])) ∧ Below w.heap.size w w'
theorem x_end {w wr : World} {v0 v1 v2 : Value} (hb : Below w.heap.size w wr) : Below w.heap.size w (((wr.setCell ⟨w.heap.size, 0, none⟩ v0).setCell ⟨w.heap.size, 1, none⟩ v1).setCell ⟨w.heap.size, 2, none⟩ v2) :=
  ((hb.setCell (p := ⟨w.heap.size, 0, none⟩) (Nat.le_refl _) _).setCell (p := ⟨w.heap.size, 1, none⟩) (Nat.le_refl _) _).setCell (p := ⟨w.heap.size, 2, none⟩) (Nat.le_refl _) _
/-- the state of one's loop -/
def ORel (w : World) (g : Nat) (c : UInt8) (r : List UInt8) (l : List UInt8) (n : Nat) (s5 s6 : Value) (wr : World) : Prop := ∃ (m at' : Nat) (i : In), m ≤ textsN c.toNat ∧ s6 = .int .i64 m ∧ s5 = .int .i64 at' ∧ at' ≤ n ∧ i.op = c.toNat ∧ i.a.size ≤ 255 ∧ i.b.size ≤ 255 ∧
  Hid (candI c r = contK (textsN c.toNat - m) m i (l.drop at')) ∧ Hid (XB wr g i) ∧ Hid (XB wr w.heap.size zX) ∧ Hid (Below w.heap.size w wr)
theorem cut_at {l : List UInt8} {p : Nat} (h : p < l.length) : cut1 (l.drop p) = if l.length < p + 1 + l[p].toNat then none else some ((l.drop (p + 1)).take l[p].toNat, l.drop (p + 1 + l[p].toNat)) := by
  rw [List.drop_eq_getElem_cons h, cut1, List.length_drop, List.drop_drop]
  by_cases hs : l.length < p + 1 + l[p].toNat
  · rw [if_pos (by omega), if_pos hs]
  · rw [if_neg (by omega), if_neg hs]
end Go.Proofs.Ythdgaoifbejpjaa.P12

/- What placketref11.Get answers. No condition but those stated. -/
set_option linter.unusedVariables false
set_option linter.unusedSimpArgs false
namespace Go.Proofs.Ythdgaoifbejpjaa.P12
open Go.RowKit Kd P4 P11

/-- instructions of one's own, and a number -/
def Xv (w : World) (p : List In × Nat) (e : Ending) (w' : World) : Prop := ∃ (A : Option Addr) (n c : Nat) (l : List In), e = .returned (.tuple #[.slice A n c, .int .i64 (p.2 : Nat)]) ∧ l = p.1 ∧ kX.Own w' w.heap.size (.slice A n c) l ∧ Below w.heap.size w w'
theorem xv_none {w w' : World} {p : List In × Nat} {k : Nat} (h : p = ([], k)) (hb : Below w.heap.size w w') : Xv w p (.returned (.tuple #[.slice none 0 0, .int .i64 (k : Nat)])) w' := by
  subst h
  exact ⟨none, 0, 0, [], rfl, rfl, Kind.Own.nil kX w' _, hb⟩
theorem ownX_len {w : World} {B : Nat} {A : Option Addr} {n c : Nat} {l : List In} (h : kX.Own w B (.slice A n c) l) : l.length = n := by
  obtain ⟨A', n', c', hv, e1, e2, e3, e4, e5⟩ := h.slice
  injection hv with h1 h2 h3
  rw [e1, ← h2]
end Go.Proofs.Ythdgaoifbejpjaa.P12

/- What placketref11.Same and the law's Few answer. No condition but those stated. -/
set_option linter.unusedVariables false
set_option linter.unusedSimpArgs false
namespace Go.Proofs.Ythdgaoifbejpjaa.P12
open Go.RowKit Kd P4 P11

theorem eqgX : Try.prog.eqGuardType Try.prog.depth 71 = false := by kernel_rfl
theorem heldX : Try.prog.stoodInHeld 71 = false := by kernel_rfl
def inB (a b : In) : Bool := a.op == b.op && a.a.toList == b.a.toList && a.b.toList == b.b.toList
def sameI : List In → List In → Bool
  | [], [] => true
  | a :: l, b :: m => inB a b && sameI l m
  | _, _ => false
theorem inB_refl (a : In) : inB a a = true := by simp [inB]
theorem sameI_refl : ∀ l : List In, sameI l l = true
  | [] => rfl
  | a :: l => by rw [sameI, inB_refl, sameI_refl l]; rfl
theorem sameI_len : ∀ {l m : List In}, l.length ≠ m.length → sameI l m = false
  | [], [], h => absurd rfl h
  | [], _ :: _, _ => rfl
  | _ :: _, [], _ => rfl
  | a :: l, b :: m, h => by rw [sameI, sameI_len (l := l) (m := m) (by simpa using h), Bool.and_false]
theorem sameI_bad : ∀ {l m : List In} {k : Nat} (h : k < l.length) (h' : k < m.length), inB l[k] m[k] = false → sameI l m = false
  | [], _, _, h, _, _ => by simp at h
  | _ :: _, [], _, _, h, _ => by simp at h
  | a :: l, b :: m, 0, _, _, e => by simp only [List.getElem_cons_zero] at e; rw [sameI, e, Bool.false_and]
  | a :: l, b :: m, k + 1, h, h', e => by simp only [List.getElem_cons_succ] at e; rw [sameI, sameI_bad (by simpa using h) (by simpa using h') e, Bool.and_false]
theorem sameI_all : ∀ {l m : List In}, l.length = m.length → (∀ k (h : k < l.length) (h' : k < m.length), inB l[k] m[k] = true) → sameI l m = true
  | [], [], _, _ => rfl
  | [], _ :: _, h, _ => by simp at h
  | _ :: _, [], h, _ => by simp at h
  | a :: l, b :: m, h, k => by
    have h0 := k 0 (by simp) (by simp)
    simp only [List.getElem_cons_zero] at h0
    rw [sameI, h0, sameI_all (by simpa using h) (fun j h1 h2 => by have := k (j + 1) (by simpa using h1) (by simpa using h2); simpa using this)]
    rfl
theorem eq_runX (a b : In) (d : Nat) (w : World) : (Op.equalIn (d + 2) 71 (.agg #[.int .i64 a.op, .string a.a, .string a.b]) (.agg #[.int .i64 b.op, .string b.a, .string b.b])).run Try.prog w = .ok (inB a b) w := by
  rw [run_equalIn_struct w (d + 1) 71 _ _ (by unfold Program.fieldsOf; rw [Try.underlying71]) heldX]
  simp [Program.fieldsOf, Try.underlying71, Op.eqFields, go_sem, Try.underlying9, Try.underlying3, part]
  unfold inB
  by_cases h1 : a.op = b.op <;> by_cases h2 : a.a.toList = b.a.toList <;> by_cases h3 : a.b.toList = b.b.toList <;> simp [h1, h2, h3]
theorem neq_atX {a b : In} {r : Bool} (h : inB a b = r) (w : World) : (binOp .neq 71 (.agg #[.int .i64 a.op, .string a.a, .string a.b]) (.agg #[.int .i64 b.op, .string b.a, .string b.b])).run Try.prog w = .ok (.bool (!r)) w := by
  rw [run_neq_struct, eq_runX a b 9998 w, h]; rfl
def SameTo (l m : List In) (k : Nat) : Prop := ∀ j (h : j < l.length) (h' : j < m.length), j < k → inB l[j] m[j] = true
/-! ### Few -/
def fewX (l : List In) : Bool := decide (l.length ≤ 150) && l.all (fun i => decide (i.a.size ≤ 300) && decide (i.b.size ≤ 300))
def shortX (i : In) : Bool := decide (i.a.size ≤ 300) && decide (i.b.size ≤ 300)
/-- what Few tells: 1 at most where there are few, and short -/
def FewV (w : World) (l : List In) (e : Ending) (w' : World) : Prop := (e = .returned (.int .i64 0) ∨ (e = .returned (.int .i64 1) ∧ l.length ≤ 150 ∧ ∀ i ∈ l, i.a.size ≤ 300 ∧ i.b.size ≤ 300)) ∧ w = w'
def ShortTo (l : List In) (k : Nat) : Prop := ∀ j (h : j < l.length), j < k → l[j].a.size ≤ 300 ∧ l[j].b.size ≤ 300
set_option maxRecDepth 100000 in
set_option maxHeartbeats 2000000 in
theorem fewX_any (l : List In) (A : Option Addr) (n c : Nat) (w : World) (hn : l.length = n) (hl : n ≤ maxLen) (H : kX.Holds w w.heap.size A l) : Calls Try.prog 14 #[.slice A n c] w (FewV w l) := by
  have HH := Lib.hid H
  have HN := Lib.hid hn
  unfold maxLen at hl
  clear H hn
  go_enter Try.func14, Try.ntmps14
  go_wp2_with fail
  go_loopw [3] (fun i wr => ∃ k : Nat, k ≤ n ∧ k ≤ 150 ∧ i = .int .i64 k ∧ Hid (wr = w) ∧ Hid (ShortTo l k)) (fun i _ => 150 - (intOf i).toNat)
  case atStart => exact ⟨0, by omega, by omega, rfl, Lib.hid rfl, Lib.hid (fun j _ h => by omega)⟩
  case round =>
    obtain ⟨k, hk, hk2, rfl, HW, HS⟩ := hrel
    obtain rfl := HW.out
    by_cases hlt : k < n
    · by_cases h150 : k < 150
      · have hlt1 : k < l.length := by have := HN.out; omega
        obtain ⟨b, o, rfl, hb, h0, h1, h2⟩ := cell_of_ins HH.out hlt1
        have NX : Hid (l[k].a.size ≤ 300 → l[k].b.size ≤ 300 → ShortTo l (k + 1)) := Lib.hid (fun ha hb j hj h => by
          rcases Nat.lt_or_ge j k with e | e
          · exact HS.out j hj e
          · obtain rfl : j = k := by omega
            exact ⟨ha, hb⟩)
        generalize l[k] = d at h0 h1 h2 NX
        by_cases ha : d.a.size ≤ 300
        · by_cases hbb : d.b.size ≤ 300
          · have q1 : decide ((300 : Int) < (d.a.size : Int)) = false := by simp; omega
            have q2 : decide ((300 : Int) < (d.b.size : Int)) = false := by simp; omega
            have NX2 := Lib.hid (NX.out ha hbb)
            clear NX
            go_wp2_with fail
            go_roundw
            case rel => exact ⟨k + 1, by omega, by omega, by go_num, Lib.hid (by first | trivial | rfl), NX2⟩
            case measure => simp [intOf]; omega
          · have q1 : decide ((300 : Int) < (d.a.size : Int)) = false := by simp; omega
            have q2 : decide ((300 : Int) < (d.b.size : Int)) = true := by simp; omega
            go_wp2_with fail
            go_ret
            exact ⟨.inl rfl, by first | trivial | rfl⟩
        · have q1 : decide ((300 : Int) < (d.a.size : Int)) = true := by simp; omega
          go_wp2_with fail
          go_ret
          exact ⟨.inl rfl, by first | trivial | rfl⟩
      · obtain rfl : k = 150 := by omega
        have q1 : decide ((150 : Int) < (n : Int)) = true := by simp; omega
        go_wp2_with fail
        go_ret
        exact ⟨.inl rfl, by first | trivial | rfl⟩
    · obtain rfl : k = n := by omega
      have q1 : decide ((150 : Int) < (k : Int)) = false := by simp; omega
      go_wp2_with fail
      go_ret
      refine ⟨.inr ⟨rfl, by have := HN.out; omega, fun i hi => ?_⟩, by first | trivial | rfl⟩
      obtain ⟨j, hj, rfl⟩ := List.mem_iff_getElem.1 hi
      exact HS.out j hj (by have := HN.out; omega)
end Go.Proofs.Ythdgaoifbejpjaa.P12

/- What placketref11.tells, begin, ahead, attr, wrong and Check answer. No condition but those stated. -/
set_option linter.unusedVariables false
set_option linter.unusedSimpArgs false
namespace Go.Proofs.Ythdgaoifbejpjaa.P13
open Go.RowKit Kd P4 P5 P11 P12

theorem own_cut {P : Program} {α : Type} {K : Kind P α} {w : World} {B : Nat} {A : Option Addr} {n c k : Nat} {l : List α} (h : K.Own w B (.slice A n c) l) (hk : k ≤ l.length) : K.Own w B (.slice A k c) (l.take k) := by
  rcases h.form with ⟨hv, hl⟩ | ⟨g, c', cur, hv, _, hg, hlt, hh, hnc, hcm, hcs, ht⟩
  · injection hv with e1 e2 e3
    subst e1; subst e2; subst e3; subst hl
    obtain rfl : k = 0 := by simpa using hk
    rw [List.take_nil]
    exact h
  · injection hv with e1 e2 e3
    subst e1; subst e2; subst e3
    refine Kind.own_mk (by simp; omega) hg hh (by omega) hcm hcs ?_
    rw [Kind.cells_take, ← ht, List.take_take, Nat.min_eq_left (Nat.mul_le_mul_right _ hk)]
theorem ownI_is {w : World} {D : Nat} {A : Option Addr} {n c : Nat} {l : List Int} (h : kI.Own w D (.slice A n c) l) : l.length = n ∧ n ≤ c ∧ c ≤ maxLen ∧ (A = none → c = 0) ∧ kI.Holds w w.heap.size A l := by
  obtain ⟨A', n', c', hv, e1, e2, e3, e4, e5⟩ := h.slice
  injection hv with h1 h2 h3
  subst h1; subst h2; subst h3
  exact ⟨e1, e2, e3, e4, e5⟩
/-! ### begin -/
def BgRel (w : World) (l : List In) (k : Nat) (s6 s7 : Value) (wr : World) : Prop := ∃ (i : Nat) (A' : Option Addr) (n' c' : Nat), i ≤ k ∧ s7 = .int .i64 i ∧ s6 = .slice A' n' c' ∧ Hid (kI.Own wr w.heap.size (.slice A' n' c') (opensK l i)) ∧ Hid (Below w.heap.size w wr)
end Go.Proofs.Ythdgaoifbejpjaa.P13

/- What placketref11.end answers, of what is wanted in a program. No condition but those stated. -/
set_option linter.unusedVariables false
set_option linter.unusedSimpArgs false
namespace Go.Proofs.Ythdgaoifbejpjaa.P14
open Go.RowKit Kd P4 P5 P11 P12 P13

theorem at_pre {pre X l : List In} (he : l = pre ++ X) {i : Nat} (h : pre.length + i < l.length) (h' : i < X.length) : l[pre.length + i] = X[i] := by
  subst he
  rw [List.getElem_append_right (by omega)]
  congr 1
  omega
theorem ds_step {l : List In} {m : Nat} (h : m < l.length) : ds (l.take (m + 1)) = ds (l.take m) + deltaO l[m].op := by
  rw [List.take_add_one, List.getElem?_eq_getElem h, ds_append]
  simp [ds]
end Go.Proofs.Ythdgaoifbejpjaa.P14

/- Old nodes and Booleans as they lie in memory; an element of a row of one's own set; a row made. No condition. -/
set_option linter.unusedVariables false
set_option linter.unusedSimpArgs false
namespace Go.Proofs.Ythdgaoifbejpjaa.P16
open Go.RowKit Kd P4 P5 P11 P12 P13 P14

theorem infoO : (Try.prog.info? 81).map (fun i => (i.zero, i.size, i.bytes)) = some (some (.agg #[.string ⟨#[]⟩, .string ⟨#[]⟩]), 2, 32) := by kernel_rfl
theorem infoU : (Try.prog.info? 61).map (fun i => (i.zero, i.size, i.bytes)) = some (some (.agg #[.string ⟨#[]⟩, .string ⟨#[]⟩]), 2, 32) := by kernel_rfl
theorem infoBo : (Try.prog.info? 4).map (fun i => (i.zero, i.size, i.bytes)) = some (some (.bool false), 1, 1) := by kernel_rfl
def Ol.cells (o : Ol) : List Value := [.string o.tag, .string o.key]
/-- the program's -/
def kO : Kind Try.prog Ol where
  t := 53
  e := 81
  size := 2
  bytes := 32
  z := .agg #[.string ⟨#[]⟩, .string ⟨#[]⟩]
  cs := Ol.cells
  ht := Try.underlying53
  info := info_ex infoO
  hzs := rfl
  hpos := by decide
  hbb := by decide
  len := fun _ => rfl
  one := fun a u hu => by simp [Ol.cells] at hu; rcases hu with rfl | rfl <;> rfl
/-- the document's -/
def kU : Kind Try.prog Ol where
  t := 59
  e := 61
  size := 2
  bytes := 32
  z := .agg #[.string ⟨#[]⟩, .string ⟨#[]⟩]
  cs := Ol.cells
  ht := Try.underlying59
  info := info_ex infoU
  hzs := rfl
  hpos := by decide
  hbb := by decide
  len := fun _ => rfl
  one := fun a u hu => by simp [Ol.cells] at hu; rcases hu with rfl | rfl <;> rfl
def kBo : Kind Try.prog Bool where
  t := 82
  e := 4
  size := 1
  bytes := 1
  z := .bool false
  cs := fun c => [.bool c]
  ht := Try.underlying82
  info := info_ex infoBo
  hzs := rfl
  hpos := by decide
  hbb := by decide
  len := fun _ => rfl
  one := fun a u hu => by simp at hu; subst hu; rfl
theorem cell_of_u {w : World} {B : Nat} {A : Option Addr} {l : List Ol} (h : kU.Holds w B A l) {k : Nat} (hk : k < l.length) :
    ∃ b o, A = some ⟨b, o, none⟩ ∧ b < B ∧ w.cell? ⟨b, o + k * 2, none⟩ = some (.string l[k].tag) ∧ w.cell? ⟨b, o + k * 2 + 1, none⟩ = some (.string l[k].key) := by
  obtain ⟨b, o, rfl, hb, hc⟩ := h.at hk
  exact ⟨b, o, rfl, hb, hc 0 _ rfl, hc 1 _ rfl⟩
theorem cell_of_o {w : World} {B : Nat} {A : Option Addr} {l : List Ol} (h : kO.Holds w B A l) {k : Nat} (hk : k < l.length) :
    ∃ b o, A = some ⟨b, o, none⟩ ∧ b < B ∧ w.cell? ⟨b, o + k * 2, none⟩ = some (.string l[k].tag) ∧ w.cell? ⟨b, o + k * 2 + 1, none⟩ = some (.string l[k].key) := by
  obtain ⟨b, o, rfl, hb, hc⟩ := h.at hk
  exact ⟨b, o, rfl, hb, hc 0 _ rfl, hc 1 _ rfl⟩
theorem own_setK {P : Program} {α : Type} {K : Kind P α} {w : World} {B g n c : Nat} {l : List α} (h : K.Own w B (.slice (some ⟨g, 0, none⟩) n c) l) {k : Nat} (hk : k < l.length) (a : α) :
    K.Own (w.setCells g (k * K.size) (K.cs a)) B (.slice (some ⟨g, 0, none⟩) n c) (l.set k a) := by
  rcases h.form with ⟨hv, _⟩ | ⟨g', c', cur, hv, _, hBg, hlt, hh, hnc, hcm, hcs, ht⟩
  · cases hv
  injection hv with e1 e2 e3
  injection e1 with e1
  injection e1 with e1
  subst e1; subst e2; subst e3
  obtain ⟨cur', h1, h2, h3⟩ := heap_setCells g (K.cs a) (k * K.size) w cur _ _ hh
  have hmul : l.length * K.size ≤ c * K.size := Nat.mul_le_mul_right _ hnc
  have hkm : (k + 1) * K.size ≤ l.length * K.size := Nat.mul_le_mul_right _ hk
  have hkm2 : (k + 1) * K.size = k * K.size + K.size := by rw [Nat.add_mul, Nat.one_mul]
  refine Kind.own_mk (by simp) hBg h1 hnc hcm (by rw [h2]; exact hcs) ?_
  apply List.ext_getElem?
  intro i
  have hpos := K.hpos
  rw [List.getElem?_take]
  by_cases hi : i < l.length * K.size
  · rw [if_pos hi, Array.getElem?_toList, h3 i (by omega), K.len]
    have hdm : i / K.size * K.size + i % K.size = i := by rw [Nat.mul_comm]; exact Nat.div_add_mod i K.size
    have hmod : i % K.size < K.size := Nat.mod_lt _ hpos
    have hdiv : i / K.size < l.length := by rw [Nat.div_lt_iff_lt_mul hpos]; exact hi
    have hat := K.cells_at (l.set k a) (i / K.size) (by simpa using hdiv) (i % K.size) hmod
    rw [hdm] at hat
    rw [hat, List.getElem_set]
    by_cases hik : k = i / K.size
    · subst hik
      rw [if_pos rfl, if_pos ⟨by omega, by omega⟩]
      congr 1
      omega
    · rw [if_neg hik]
      have hat2 := K.cells_at l (i / K.size) hdiv (i % K.size) hmod
      rw [hdm] at hat2
      rw [← hat2, ← ht, List.getElem?_take, if_pos hi, if_neg ?_, Array.getElem?_toList]
      rintro ⟨h5, h6⟩
      apply hik
      have h7 : k ≤ i / K.size := by rw [Nat.le_div_iff_mul_le hpos]; exact h5
      have h8 : i / K.size < k + 1 := by rw [Nat.div_lt_iff_lt_mul hpos]; omega
      omega
  · rw [if_neg hi, List.getElem?_eq_none]
    rw [Kind.cells_len, List.length_set]
    omega
/-- an element of a row of one's own: its cell, and that it may be set -/
theorem own_bool {w : World} {B g n c : Nat} {l : List Bool} (h : kBo.Own w B (.slice (some ⟨g, 0, none⟩) n c) l) {k : Nat} (hk : k < l.length) :
    w.cell? ⟨g, k, none⟩ = some (.bool l[k]) ∧ w.frozen? ⟨g, k, none⟩ = false ∧ ∀ b, kBo.Own (w.setCell ⟨g, k, none⟩ (.bool b)) B (.slice (some ⟨g, 0, none⟩) n c) (l.set k b) := by
  refine ⟨?_, ?_, fun b => ?_⟩
  · obtain ⟨A', n', c', hv, _, _, _, _, e5⟩ := h.slice
    injection hv with h1 h2 h3
    subst h1; subst h2; subst h3
    obtain ⟨b, o, hA, _, hc⟩ := e5.at hk
    injection hA with hA
    injection hA with e1 e2 _
    subst e1; subst e2
    have := hc 0 _ rfl
    simpa [kBo] using this
  · rcases h.form with ⟨hv, _⟩ | ⟨g', c', cur, hv, _, _, _, hh, _⟩
    · cases hv
    injection hv with e1
    injection e1 with e1
    injection e1 with e1
    subst e1
    simp [World.frozen?, hh]
  · have := own_setK h hk b
    have e : k * kBo.size = k := Nat.mul_one k
    rw [e] at this
    exact this
theorem set_but (w : World) (g k : Nat) (u : Value) : But (fun i => i = g) w (w.setCell ⟨g, k, none⟩ u) := But.setCell (S := fun i => i = g) (p := ⟨g, k, none⟩) (But.refl _ _) (fun _ => rfl) u
theorem cells_rep : ∀ M : Nat, kBo.cells (List.replicate M false) = List.replicate M (.bool false)
  | 0 => rfl
  | M + 1 => by
    have h := cells_rep M
    simp only [Kind.cells, List.replicate_succ, List.flatMap_cons] at h ⊢
    rw [h]
    rfl
theorem make_bools (W : World) (B M : Nat) (hB : B ≤ W.heap.size) (hM : M ≤ 100000) :
    ∃ w', (Instr.makeSlice 82 (.int .i64 (M : Int)) (.int .i64 (M : Int))).run Try.prog W = .ok (.slice (some ⟨W.heap.size, 0, none⟩) M M) w' ∧
      kBo.Own w' B (.slice (some ⟨W.heap.size, 0, none⟩) M M) (List.replicate M false) ∧ W.grownBy w' none := by
  obtain ⟨i0, hi, hz0, hz1, hz2⟩ := kBo.info
  have hb : kBo.bytes = 1 := rfl
  obtain ⟨w', h1, h2, h3⟩ := run_make_full (P := Try.prog) W B 82 4 i0 kBo.z kBo.size Try.underlying82 hi hz0 hz1 .i64 .i64 M (by rw [hz2, hb]; omega) (by unfold maxLen; omega) hB
  refine ⟨w', h1, ?_, h3⟩
  have e : (madeCells kBo.z.cells (M * kBo.size)).toList = kBo.cells (List.replicate M false) := by
    have e1 : M * kBo.size = M := Nat.mul_one M
    have e2 : kBo.z.cells = #[.bool false] := rfl
    rw [e1, e2, toList_madeCells_one, cells_rep]
  rw [e] at h2
  show w'.ownsRow B kBo.e kBo.size _ (List.replicate M false).length _
  rw [List.length_replicate]
  exact h2
/-- a row of one's own that grows stays apart of another -/
theorem apart_grows {w : World} {v u v' : Value} {o : Obj} {B : Nat} {l : List Int} (ha : Apart v u) (hu : kI.Own w B u l) (hat : v'.ownBlock = v.ownBlock ∨ v'.ownBlock = some (w.alloc o).heap.size) : Apart v' u := by
  intro g hg e
  rcases hat with h | h
  · exact ha g (h ▸ hg) e
  · rw [h] at hg
    injection hg with hg
    have := (hu.lt e).2
    simp at hg
    omega
end Go.Proofs.Ythdgaoifbejpjaa.P16

/- What is wanted, as it lies in memory: the program's, and the document's. No condition. -/
set_option linter.unusedVariables false
set_option linter.unusedSimpArgs false
namespace Go.Proofs.Ythdgaoifbejpjaa.P14
open Go.RowKit Kd P4 P5 P11 P12 P13

theorem infoW : (Try.prog.info? 41).map (fun i => (i.zero, i.size, i.bytes)) = some (some (.agg #[.int .i64 0, .string ⟨#[]⟩, .string ⟨#[]⟩, .string ⟨#[]⟩, .slice none 0 0, .slice none 0 0]), 6, 104) := by kernel_rfl
theorem infoQ : (Try.prog.info? 65).map (fun i => (i.zero, i.size, i.bytes)) = some (some (.agg #[.int .i64 0, .string ⟨#[]⟩, .string ⟨#[]⟩, .string ⟨#[]⟩, .slice none 0 0, .slice none 0 0]), 6, 104) := by kernel_rfl
def WV.cells (a : WV) : List Value := [.int .i64 a.kind, .string a.tag, .string a.key, .string a.txt, .slice a.sa.A a.sa.n a.sa.c, .slice a.sk.A a.sk.n a.sk.c]
/-- the program's -/
def kW : Kind Try.prog WV where
  t := 25
  e := 41
  size := 6
  bytes := 104
  z := .agg #[.int .i64 0, .string ⟨#[]⟩, .string ⟨#[]⟩, .string ⟨#[]⟩, .slice none 0 0, .slice none 0 0]
  cs := WV.cells
  ht := Try.underlying25
  info := info_ex infoW
  hzs := rfl
  hpos := by decide
  hbb := by decide
  len := fun _ => rfl
  one := fun a u hu => by simp [WV.cells] at hu; rcases hu with rfl | rfl | rfl | rfl | rfl | rfl <;> rfl
/-- the document's -/
def kQ : Kind Try.prog WV where
  t := 31
  e := 65
  size := 6
  bytes := 104
  z := .agg #[.int .i64 0, .string ⟨#[]⟩, .string ⟨#[]⟩, .string ⟨#[]⟩, .slice none 0 0, .slice none 0 0]
  cs := WV.cells
  ht := Try.underlying31
  info := info_ex infoQ
  hzs := rfl
  hpos := by decide
  hbb := by decide
  len := fun _ => rfl
  one := fun a u hu => by simp [WV.cells] at hu; rcases hu with rfl | rfl | rfl | rfl | rfl | rfl <;> rfl
theorem cell_of_w {w : World} {B : Nat} {A : Option Addr} {l : List WV} (h : kW.Holds w B A l) {k : Nat} (hk : k < l.length) :
    ∃ b o, A = some ⟨b, o, none⟩ ∧ b < B ∧ w.cell? ⟨b, o + k * 6, none⟩ = some (.int .i64 l[k].kind) ∧ w.cell? ⟨b, o + k * 6 + 1, none⟩ = some (.string l[k].tag) ∧ w.cell? ⟨b, o + k * 6 + 2, none⟩ = some (.string l[k].key) ∧
      w.cell? ⟨b, o + k * 6 + 3, none⟩ = some (.string l[k].txt) ∧ w.cell? ⟨b, o + k * 6 + 4, none⟩ = some (.slice l[k].sa.A l[k].sa.n l[k].sa.c) ∧ w.cell? ⟨b, o + k * 6 + 5, none⟩ = some (.slice l[k].sk.A l[k].sk.n l[k].sk.c) := by
  obtain ⟨b, o, rfl, hb, hc⟩ := h.at hk
  exact ⟨b, o, rfl, hb, hc 0 _ rfl, hc 1 _ rfl, hc 2 _ rfl, hc 3 _ rfl, hc 4 _ rfl, hc 5 _ rfl⟩
theorem cell_of_q {w : World} {B : Nat} {A : Option Addr} {l : List WV} (h : kQ.Holds w B A l) {k : Nat} (hk : k < l.length) :
    ∃ b o, A = some ⟨b, o, none⟩ ∧ b < B ∧ w.cell? ⟨b, o + k * 6, none⟩ = some (.int .i64 l[k].kind) ∧ w.cell? ⟨b, o + k * 6 + 1, none⟩ = some (.string l[k].tag) ∧ w.cell? ⟨b, o + k * 6 + 2, none⟩ = some (.string l[k].key) ∧
      w.cell? ⟨b, o + k * 6 + 3, none⟩ = some (.string l[k].txt) ∧ w.cell? ⟨b, o + k * 6 + 4, none⟩ = some (.slice l[k].sa.A l[k].sa.n l[k].sa.c) ∧ w.cell? ⟨b, o + k * 6 + 5, none⟩ = some (.slice l[k].sk.A l[k].sk.n l[k].sk.c) := by
  obtain ⟨b, o, rfl, hb, hc⟩ := h.at hk
  exact ⟨b, o, rfl, hb, hc 0 _ rfl, hc 1 _ rfl, hc 2 _ rfl, hc 3 _ rfl, hc 4 _ rfl, hc 5 _ rfl⟩
/-- what is wanted, that is read, below block C -/
inductive WOk (K : Kind Try.prog WV) (w : World) (C : Nat) : WV → Prop
  | mk {kind : Int} {tag key txt : ByteArray} {sa sk : Sv} {attrs : List P3.At} {kids : List WV} (al : attrs.length = sa.n) (ac : sa.n ≤ sa.c) (az : sa.A = none → sa.c = 0) (ah : kA.Holds w C sa.A attrs)
      (kl : kids.length = sk.n) (kc : sk.n ≤ sk.c) (kz : sk.A = none → sk.c = 0) (kh : K.Holds w C sk.A kids) (ks : ∀ k ∈ kids, WOk K w C k) : WOk K w C (.mk kind tag key txt sa attrs sk kids)
section
variable {K : Kind Try.prog WV} {w w' : World} {C D : Nat} {t : WV}
theorem WOk.al (h : WOk K w C t) : t.attrs.length = t.sa.n := by cases h; assumption
theorem WOk.ac (h : WOk K w C t) : t.sa.n ≤ t.sa.c := by cases h; assumption
theorem WOk.az (h : WOk K w C t) : t.sa.A = none → t.sa.c = 0 := by cases h; assumption
theorem WOk.ah (h : WOk K w C t) : kA.Holds w C t.sa.A t.attrs := by cases h; assumption
theorem WOk.kl (h : WOk K w C t) : t.kids.length = t.sk.n := by cases h; assumption
theorem WOk.kc (h : WOk K w C t) : t.sk.n ≤ t.sk.c := by cases h; assumption
theorem WOk.kz (h : WOk K w C t) : t.sk.A = none → t.sk.c = 0 := by cases h; assumption
theorem WOk.kh (h : WOk K w C t) : K.Holds w C t.sk.A t.kids := by cases h; assumption
theorem WOk.ks (h : WOk K w C t) : ∀ k ∈ t.kids, WOk K w C k := by cases h; assumption
theorem WOk.later (h : WOk K w C t) (hb : Below D w w') (hC : C ≤ D) : WOk K w' C t := by
  induction t using WV.ind with
  | h kind tag key txt sa attrs sk kids ih => exact ⟨h.al, h.ac, h.az, h.ah.below hb hC, h.kl, h.kc, h.kz, h.kh.below hb hC, fun k hk => ih k hk (h.ks k hk)⟩
theorem WOk.more (h : WOk K w C t) (hC : C ≤ D) : WOk K w D t := by
  induction t using WV.ind with
  | h kind tag key txt sa attrs sk kids ih => exact ⟨h.al, h.ac, h.az, h.ah.more hC, h.kl, h.kc, h.kz, h.kh.more hC, fun k hk => ih k hk (h.ks k hk)⟩
theorem WOk.on (h : WOk K w w.heap.size t) (hb : Below w.heap.size w w') : WOk K w' w'.heap.size t := (h.later hb (Nat.le_refl _)).more hb.size
end
/-- the slices of what is wanted in it, and of all below, are of one's own; their blocks are in Q -/
inductive WNew (K : Kind Try.prog WV) (w : World) (Q : Nat → Prop) : WV → Prop
  | mk {kind : Int} {tag key txt : ByteArray} {sa sk : Sv} {attrs : List P3.At} {kids : List WV} (at_ : AOk w sa attrs) (own : K.Own w 0 (.slice sk.A sk.n sk.c) kids) (q : ∀ b, (Value.slice sk.A sk.n sk.c).ownBlock = some b → Q b) (ks : ∀ k ∈ kids, WNew K w Q k) : WNew K w Q (.mk kind tag key txt sa attrs sk kids)
section
variable {K : Kind Try.prog WV} {w w' : World} {Q R S : Nat → Prop} {t : WV}
theorem WNew.at_ (h : WNew K w Q t) : AOk w t.sa t.attrs := by cases h; assumption
theorem WNew.own (h : WNew K w Q t) : K.Own w 0 (.slice t.sk.A t.sk.n t.sk.c) t.kids := by cases h; assumption
theorem WNew.q (h : WNew K w Q t) : ∀ b, (Value.slice t.sk.A t.sk.n t.sk.c).ownBlock = some b → Q b := by cases h; assumption
theorem WNew.ks (h : WNew K w Q t) : ∀ k ∈ t.kids, WNew K w Q k := by cases h; assumption
theorem WNew.mono (h : WNew K w Q t) (hq : ∀ b, b < w.heap.size → Q b → R b) : WNew K w R t := by
  induction t using WV.ind with
  | h kind tag key txt sa attrs sk kids ih => exact ⟨h.at_, h.own, fun b hb => hq b (h.own.lt hb).2 (h.q b hb), fun k hk => ih k hk (h.ks k hk)⟩
theorem WNew.but (h : WNew K w Q t) (hb : But S w w') (hS : ∀ b, Q b → ¬ S b) (hA : NoA w S) : WNew K w' Q t := by
  induction t using WV.ind with
  | h kind tag key txt sa attrs sk kids ih => exact ⟨h.at_.but hb hA, h.own.but hb (fun b e => hS b (h.q b e)), h.q, fun k hk => ih k hk (h.ks k hk)⟩
theorem WNew.later (h : WNew K w Q t) (hb : Below w.heap.size w w') : WNew K w' Q t := h.but (But.of_below hb (fun _ => False)) (fun _ _ h => h) (NoA.none w)
theorem WNew.ok (h : WNew K w Q t) : WOk K w w.heap.size t := by
  induction t using WV.ind with
  | h kind tag key txt sa attrs sk kids ih =>
    have h1 := h.at_
    have h2 := h.own
    simp only [WV.sa, WV.attrs] at h1
    simp only [WV.sk, WV.kids] at h2
    obtain ⟨A, n, c, hv, e1, e2, e3, e4, e5⟩ := h2.slice
    injection hv with v1 v2 v3
    subst v1; subst v2; subst v3
    exact ⟨h1.len, h1.cap, h1.nil, h1.holds, e1, e2, fun e => e4 e, e5, fun k hk => ih k hk (h.ks k hk)⟩
end
/-- blocks of one type that is not the attributes' -/
theorem kind_noA {S : Nat → Prop} {w : World} {e : TypeId} (he : e ≠ 85) (h : ∀ b, S b → ∃ cur, w.heap[b]? = some (.cells cur e (0, 0))) : NoA w S := fun k cur fr hk hc => by
  obtain ⟨c, h1⟩ := h k hk
  exact heap_ne hc h1 (fun e2 => he e2.symm) rfl
/-- a slice of one's own grows by one -/
theorem wants_grew {K : Kind Try.prog WV} (he : K.e ≠ 85) {w5 w7 : World} {o : Obj} {D : Nat} {A A7 : Option Addr} {n c n7 c7 : Nat} {l : List WV} {k : WV} {Q : Nat → Prop} (own : K.Own w5 D (.slice A n c) l)
    (ks : ∀ k ∈ l, WNew K w5 (fun b => Q b ∧ (Value.slice A n c).ownBlock ≠ some b) k) (hk : WNew K w5 (fun b => Q b ∧ (Value.slice A n c).ownBlock ≠ some b) k) (hg : (w5.alloc o).grownBy w7 (Value.slice A n c).ownBlock)
    (hat : (Value.slice A7 n7 c7).ownBlock = (Value.slice A n c).ownBlock ∨ (Value.slice A7 n7 c7).ownBlock = some (w5.alloc o).heap.size) :
    (∀ t ∈ l ++ [k], WNew K w7 (fun b => Q b ∧ (Value.slice A7 n7 c7).ownBlock ≠ some b) t) ∧ But (fun b => (Value.slice A n c).ownBlock = some b) w5 w7 := by
  have b7 : But (fun b => (Value.slice A n c).ownBlock = some b) w5 w7 := (But.alloc (But.refl _ _) _).trans (But.of_grown (S := fun i => (Value.slice A n c).ownBlock = some i) hg (fun i hi _ => hi)) (fun _ _ h => h)
  have hS : ∀ b, (Value.slice A n c).ownBlock = some b → ∃ cur, w5.heap[b]? = some (.cells cur K.e (0, 0)) := fun b e => own.ty e
  have key' : ∀ k : WV, WNew K w5 (fun b => Q b ∧ (Value.slice A n c).ownBlock ≠ some b) k → WNew K w7 (fun b => Q b ∧ (Value.slice A7 n7 c7).ownBlock ≠ some b) k := by
    intro k h
    have h1 : WNew K w5 (fun b => (Q b ∧ (Value.slice A n c).ownBlock ≠ some b) ∧ b < w5.heap.size) k := h.mono fun b hb hq => ⟨hq, hb⟩
    refine (h1.but b7 (fun b hq hs => hq.1.2 hs) (kind_noA he hS)).mono fun b _ hq => ⟨hq.1.1, fun e => ?_⟩
    rcases hat with h2 | h2
    · exact hq.1.2 (h2 ▸ e)
    · rw [h2] at e
      injection e with e
      have := hq.2
      simp at e
      omega
  refine ⟨fun t ht => ?_, b7⟩
  rcases List.mem_append.1 ht with h | h
  · exact key' t (ks t h)
  · rw [List.mem_singleton.1 h]; exact key' _ hk
/-- what is wanted of one's own, as a call tells it -/
def Wv (K : Kind Try.prog WV) (w : World) (l : List PW) (e : Ending) (w' : World) : Prop := ∃ (A : Option Addr) (n c : Nat) (ts : List WV), e = .returned (.slice A n c) ∧ erL ts = l ∧ K.Own w' w.heap.size (.slice A n c) ts ∧ (∀ t ∈ ts, WNew K w' (fun b => w.heap.size ≤ b ∧ (Value.slice A n c).ownBlock ≠ some b) t) ∧ Below w.heap.size w w'
theorem ownK_is {K : Kind Try.prog WV} {w : World} {D : Nat} {A : Option Addr} {n c : Nat} {l : List WV} (h : K.Own w D (.slice A n c) l) : l.length = n ∧ n ≤ c ∧ c ≤ maxLen ∧ (A = none → c = 0) ∧ K.Holds w w.heap.size A l := by
  obtain ⟨A', n', c', hv, e1, e2, e3, e4, e5⟩ := h.slice
  injection hv with h1 h2 h3
  subst h1; subst h2; subst h3
  exact ⟨e1, e2, e3, e4, e5⟩
end Go.Proofs.Ythdgaoifbejpjaa.P14

/- What placketref11.Count and Alike answer. No condition but those stated. -/
set_option linter.unusedVariables false
set_option linter.unusedSimpArgs false
namespace Go.Proofs.Ythdgaoifbejpjaa.P14
open Go.RowKit Kd P4 P5 P11 P12 P13

theorem wtL_kids {t : WV} {l : List WV} (h : t ∈ l) : wtL (erL t.kids) + 1 ≤ wtL (erL l) := by
  have h1 := wtL_mem (l := erL l) (t := er t) (by rw [erL_map]; exact List.mem_map_of_mem h)
  rw [er_parts, wtW] at h1
  omega
theorem cnt_parts (t : WV) : cntW (er t) = if t.kind = 2 then 1 else if t.kind = 1 then 1 + cntL (erL t.kids) else 0 := by rw [er_parts, cntW]
end Go.Proofs.Ythdgaoifbejpjaa.P14
