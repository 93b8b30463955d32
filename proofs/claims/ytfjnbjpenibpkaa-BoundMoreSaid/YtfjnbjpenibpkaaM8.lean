/- Slices of integers; cmp.Compare and the three atomic calls; an arena's own blocks. No condition. -/
import Derived.Test.YtfjnbjpenibpkaaChecked
import Derived.Laws.LoneSync
import Derived.Deep.Cut
import Derived.Deep.Slices
import Derived.ChangeSame
import Derived.Carry
import Derived.Test.YtfjnbjpenibpkaaM2
import Derived.Test.YtfjnbjpenibpkaaM4
import Derived.Test.YtfjnbjpenibpkaaM5
import Derived.Test.YtfjnbjpenibpkaaM6
import Derived.Test.YtfjnbjpenibpkaaM7
set_option linter.unusedVariables false
set_option linter.unusedSimpArgs false
set_option linter.unusedVariables false
set_option linter.unusedSimpArgs false
namespace Go.Proofs.Ytfjnbjpenibpkaa.P4
open Go.RowKit Kd

theorem infoI : (Try.prog.info? 3).map (fun i => (i.zero, i.size, i.bytes)) = some (some (.int .i64 0), 1, 8) := by kernel_rfl

theorem info_ex {P : Program} {e : TypeId} {z : Value} {size bytes : Nat} (h : (P.info? e).map (fun i => (i.zero, i.size, i.bytes)) = some (some z, size, bytes)) : ∃ i, P.info? e = some i ∧ i.zero = some z ∧ i.size = size ∧ i.bytes = bytes := by
  obtain ⟨i, h1, h2, h3, h4⟩ := info_parts h
  exact ⟨i, h1, h2, h3, h4⟩

/-! ### cmp.Compare, and the three atomic calls -/
theorem ret_int {a b : Int} (h : a = b) : Ending.returned (.int .i64 a) = .returned (.int .i64 b) := by rw [h]
theorem ret_bool {a b : Bool} (h : a = b) : Ending.returned (.bool a) = .returned (.bool b) := by rw [h]
def cmpA (a b : Int) : Int := if a < b then -1 else if b < a then 1 else 0
theorem cmp_zero (a b : Int) : (a == b) = (cmpA a b == 0) := by
  unfold cmpA
  by_cases h1 : a < b
  · rw [if_pos h1, beq_eq_false_iff_ne.2 (by omega)]; rfl
  · by_cases h2 : b < a
    · rw [if_neg h1, if_pos h2, beq_eq_false_iff_ne.2 (by omega)]; rfl
    · rw [if_neg h1, if_neg h2, beq_iff_eq.2 (by omega)]; rfl
theorem ret_two {p a : Nat} {x y : Bool} (h : p = a) (h2 : x = y) : Ending.returned (.tuple #[.int .i64 a, .bool y]) = .returned (.tuple #[.int .i64 p, .bool x]) := by rw [h, h2]
theorem below_at {α : Type} {N : Int} {l : List (Sl α)} (h : Asc N l) {j : Nat} (hj : j < l.length) {t : Int} (ht : l[j].id < t) {k : Nat} (hk : k < l.length) (hkj : k ≤ j) : l[k].id < t := by
  rcases Nat.lt_or_eq_of_le hkj with hlt | rfl
  · have := asc_lt h hk hj hlt; omega
  · exact ht
theorem above_at {α : Type} {N : Int} {l : List (Sl α)} (h : Asc N l) {j : Nat} (hj : j < l.length) {t : Int} (ht : t ≤ l[j].id) {k : Nat} (hk : k < l.length) (hkj : j ≤ k) : t ≤ l[k].id := by
  rcases Nat.lt_or_eq_of_le hkj with hlt | rfl
  · have := asc_lt h hj hk hlt; omega
  · exact ht
/-- an arena's own blocks: its own, and the one of its slots -/
def Arm (p : Nat) (v : Value) (k : Nat) : Prop := k = p ∨ v.ownBlock = some k
end Go.Proofs.Ytfjnbjpenibpkaa.P4

/- The slices that layer 5 has, beside those of integers: of slots of nodes, of nodes, of attributes, of the law's deeds. No condition. -/
set_option linter.unusedVariables false
set_option linter.unusedSimpArgs false
namespace Go.Proofs.Ytfjnbjpenibpkaa.P4
open Go.RowKit Kd

theorem infoA : (Try.prog.info? 75).map (fun i => (i.zero, i.size, i.bytes)) = some (some (.agg #[.string ⟨#[]⟩, .string ⟨#[]⟩, .bool false]), 3, 40) := by kernel_rfl
def kA : Kind Try.prog P3.At where
  t := 42
  e := 75
  size := 3
  bytes := 40
  z := .agg #[.string ⟨#[]⟩, .string ⟨#[]⟩, .bool false]
  cs := fun a => [.string a.nm, .string a.vl, .bool a.st]
  ht := Try.underlying42
  info := info_ex infoA
  hzs := rfl
  hpos := by decide
  hbb := by decide
  len := fun _ => rfl
  one := fun a u hu => by simp at hu; rcases hu with rfl | rfl | rfl <;> rfl

/-- a slice, as a value that lies in a cell -/
structure Sv where
  A : Option Addr
  n : Nat
  c : Nat
def Sv.val (s : Sv) : Value := .slice s.A s.n s.c
/-- a node as its cells are -/
structure RN where
  id : Int
  par : Int
  tag : ByteArray
  txt : ByteArray
  key : ByteArray
  va : Sv
  vk : Sv
  note : Int
def RN.cells (a : RN) : List Value := [.int .i64 a.id, .int .i64 a.par, .string a.tag, .string a.txt, .string a.key, a.va.val, a.vk.val, .int .i64 a.note]
/-- a deed of the law, as its cells are -/
structure RE where
  what : Int
  next : Bool
  op : Int
  rid : Int
  par : Int
  bef : Int
  tag : ByteArray
  txt : ByteArray
  key : ByteArray
  va : Sv
  id : Int
  n : Int
def RE.cells (a : RE) : List Value := [.int .i64 a.what, .bool a.next, .int .i64 a.op, .int .i64 a.rid, .int .i64 a.par, .int .i64 a.bef, .string a.tag, .string a.txt, .string a.key, a.va.val, .int .i64 a.id, .int .i64 a.n]
end Go.Proofs.Ytfjnbjpenibpkaa.P4

/- Instructions: which may be; what placketref11.May answers; instructions as they lie in memory. No condition but those stated. -/
set_option linter.unusedVariables false
set_option linter.unusedSimpArgs false
namespace Go.Proofs.Ytfjnbjpenibpkaa.P11
open Go.RowKit Kd P4

structure In where
  op : Int
  a : ByteArray
  b : ByteArray
def mayI (i : In) : Bool :=
  if i.op = 1 then P1.nameB i.a.data.toList && !P1.voidB i.a.data.toList && P1.textB i.b.data.toList
  else if i.op = 3 then P1.voidB i.a.data.toList && P1.textB i.b.data.toList
  else if i.op = 4 then P1.textB i.a.data.toList && i.b.toList.isEmpty
  else if i.op = 5 ∨ i.op = 6 then P1.nameB i.a.data.toList && P1.textB i.b.data.toList
  else if i.op = 2 ∨ i.op = 7 ∨ i.op = 8 then i.a.toList.isEmpty && i.b.toList.isEmpty
  else false
theorem infoX : (Try.prog.info? 38).map (fun i => (i.zero, i.size, i.bytes)) = some (some (.agg #[.int .i64 0, .string ⟨#[]⟩, .string ⟨#[]⟩]), 3, 40) := by kernel_rfl
def In.cells (i : In) : List Value := [.int .i64 i.op, .string i.a, .string i.b]
def kX : Kind Try.prog In where
  t := 22
  e := 38
  size := 3
  bytes := 40
  z := .agg #[.int .i64 0, .string ⟨#[]⟩, .string ⟨#[]⟩]
  cs := In.cells
  ht := Try.underlying22
  info := info_ex infoX
  hzs := rfl
  hpos := by decide
  hbb := by decide
  len := fun _ => rfl
  one := fun a u hu => by simp [In.cells] at hu; rcases hu with rfl | rfl | rfl <;> rfl
theorem cell_of_ins {w : World} {B : Nat} {A : Option Addr} {l : List In} (h : kX.Holds w B A l) {k : Nat} (hk : k < l.length) :
    ∃ b o, A = some ⟨b, o, none⟩ ∧ b < B ∧ w.cell? ⟨b, o + k * 3, none⟩ = some (.int .i64 l[k].op) ∧ w.cell? ⟨b, o + k * 3 + 1, none⟩ = some (.string l[k].a) ∧ w.cell? ⟨b, o + k * 3 + 2, none⟩ = some (.string l[k].b) := by
  obtain ⟨b, o, rfl, hb, hc⟩ := h.at hk
  exact ⟨b, o, rfl, hb, hc 0 _ rfl, hc 1 _ rfl, hc 2 _ rfl⟩
/-- an instruction in a block of its own -/
def XB (w : World) (s : Nat) (i : In) : Prop := w.heap[s]? = some (.cells #[.int .i64 i.op, .string i.a, .string i.b] 38 (0, 0))
section
variable {w w' : World} {s C : Nat} {i : In}
theorem XB.new (w : World) (i : In) : XB (w.alloc (.cells #[.int .i64 i.op, .string i.a, .string i.b] 38)) w.heap.size i := heap_alloc_new w _
theorem XB.lt (h : XB w s i) : s < w.heap.size := heap_lt h
theorem XB.below (h : XB w s i) (hb : Below C w w') (hC : s < C) : XB w' s i := (hb.block s hC).trans h
theorem XB.c0 (h : XB w s i) : w.cell? ⟨s, 0, none⟩ = some (.int .i64 i.op) := cell_of_row w s 0 _ _ (0, 0) h
theorem XB.c1 (h : XB w s i) : w.cell? ⟨s, 1, none⟩ = some (.string i.a) := cell_of_row w s 1 _ _ (0, 0) h
theorem XB.c2 (h : XB w s i) : w.cell? ⟨s, 2, none⟩ = some (.string i.b) := cell_of_row w s 2 _ _ (0, 0) h
theorem XB.fr (h : XB w s i) (k : Nat) : w.frozen? ⟨s, k, none⟩ = false := by simp [World.frozen?, (show w.heap[s]? = _ from h)]
end
theorem int_eq {a b : Int} (h : a = b) : (a == b) = true := by simp [h]
theorem int_ne {a b : Int} (h : ¬ a = b) : (a == b) = false := by simpa using h
end Go.Proofs.Ytfjnbjpenibpkaa.P11

/- An instruction, opened out of an argument. No condition. -/
set_option linter.unusedVariables false
set_option linter.unusedSimpArgs false
namespace Go.Proofs.Ytfjnbjpenibpkaa.P11
open Go.RowKit Go.ChangeShapes Go.WideShapes Go.Deep Kd P4

theorem cellsX : Try.prog.cellsOf 38 = 3 := by kernel_rfl
theorem cellsS : Try.prog.cellsOf 9 = 1 := by kernel_rfl
theorem cellsI : Try.prog.cellsOf 3 = 1 := by kernel_rfl
theorem laidOut : laidOutB Try.prog = true := by kernel_rfl
set_option maxRecDepth 100000 in
theorem open_ins_cells {H : Type} {enc : TypeId × Value → H} {w : World} (fuel : Nat) (cs : List Value) (x : DataW H × List MemPlace) (hx : DataW.trod enc Try.prog w 0 (fun _ => true) true fuel 38 cs = some x) (hlen : cs.length = 3) :
    ∃ a : In, cs = a.cells ∧ (a.a.size ≤ maxLen ∧ a.b.size ≤ maxLen) := by
  obtain ⟨xs, k, hk, hxy, _, hxl, hg⟩ := DataW.trod_struct Try.underlying38 hx
  match cs, hlen with
  | [v0, v1, v2], _ =>
    have g0 := hg 0 _ rfl
    have g1 := hg 1 _ rfl
    have g2 := hg 2 _ rfl
    simp [cellsS, cellsI] at g0 g1 g2
    have x0 : xs[0]? = some (xs[0]'(by rw [hxl]; decide)) := List.getElem?_eq_getElem _
    have x1 : xs[1]? = some (xs[1]'(by rw [hxl]; decide)) := List.getElem?_eq_getElem _
    have x2 : xs[2]? = some (xs[2]'(by rw [hxl]; decide)) := List.getElem?_eq_getElem _
    rw [x0] at g0
    rw [x1] at g1
    rw [x2] at g2
    obtain ⟨s0, hs0, _⟩ := DataW.trod_int Try.underlying3 g0
    obtain ⟨s1, hs1, _, hz1⟩ := DataW.trod_string Try.underlying9 g1
    obtain ⟨s2, hs2, _, hz2⟩ := DataW.trod_string Try.underlying9 g2
    injection hs0 with hs0 _
    injection hs1 with hs1 _
    injection hs2 with hs2 _
    subst hs0; subst hs1; subst hs2
    exact ⟨⟨s0, s1, s2⟩, rfl, hz1, hz2⟩
set_option maxRecDepth 100000 in
theorem open_ins {H : Type} {enc : TypeId × Value → H} {w : World} {v : Value} {d : DataW H} {p : List MemPlace} {base : Nat}
    (hv : Value.okWide Try.prog w .any base 38 v) (h : DataW.Trod enc Try.prog w 0 (fun _ => true) true 38 v d p) :
    ∃ a : In, v = .agg #[.int .i64 a.op, .string a.a, .string a.b] ∧ a.a.size ≤ maxLen ∧ a.b.size ≤ maxLen := by
  obtain ⟨cs, rfl, hs⟩ := okWide_struct Try.underlying38 hv
  obtain ⟨fuel, hf⟩ := h
  obtain ⟨a, hc, h1, h2⟩ := open_ins_cells fuel _ _ hf (by simpa [Value.cells, cellsX] using hs)
  refine ⟨a, ?_, h1, h2⟩
  have e : cs.toList = a.cells := by simpa [Value.cells] using hc
  rw [← Array.toArray_toList (xs := cs), e]
  rfl
end Go.Proofs.Ytfjnbjpenibpkaa.P11
