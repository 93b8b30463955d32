/- Slices of integers; cmp.Compare and the three atomic calls; an arena's own blocks. No condition. -/
import Derived.Test.YtcdcgdblchchkaaChecked
import Derived.Laws.LoneSync
import Derived.Deep.Cut
import Derived.Deep.Slices
import Derived.ChangeSame
import Derived.Carry
import Derived.Test.YtcdcgdblchchkaaM1
import Derived.Test.YtcdcgdblchchkaaM2
import Derived.Test.YtcdcgdblchchkaaM3
import Derived.Test.YtcdcgdblchchkaaM4
set_option linter.unusedVariables false
set_option linter.unusedSimpArgs false
set_option linter.unusedVariables false
set_option linter.unusedSimpArgs false
namespace Go.Proofs.Ytcdcgdblchchkaa.P4
open Go.RowKit Kd

theorem infoI : (Try.prog.info? 3).map (fun i => (i.zero, i.size, i.bytes)) = some (some (.int .i64 0), 1, 8) := by kernel_rfl

theorem info_ex {P : Program} {e : TypeId} {z : Value} {size bytes : Nat} (h : (P.info? e).map (fun i => (i.zero, i.size, i.bytes)) = some (some z, size, bytes)) : ∃ i, P.info? e = some i ∧ i.zero = some z ∧ i.size = size ∧ i.bytes = bytes := by
  obtain ⟨i, h1, h2, h3, h4⟩ := info_parts h
  exact ⟨i, h1, h2, h3, h4⟩

def kI : Kind Try.prog Int where
  t := 32
  e := 3
  size := 1
  bytes := 8
  z := .int .i64 0
  cs := fun a => [.int .i64 a]
  ht := Try.underlying32
  info := info_ex infoI
  hzs := rfl
  hpos := by decide
  hbb := by decide
  len := fun _ => rfl
  one := fun a u hu => by simp at hu; subst hu; rfl

/-! ### cmp.Compare, and the three atomic calls -/
theorem ret_int {a b : Int} (h : a = b) : Ending.returned (.int .i64 a) = .returned (.int .i64 b) := by rw [h]
theorem ret_bool {a b : Bool} (h : a = b) : Ending.returned (.bool a) = .returned (.bool b) := by rw [h]
def cmpA (a b : Int) : Int := if a < b then -1 else if b < a then 1 else 0
theorem cmp_zero (a b : Int) : (a == b) = (cmpA a b == 0) := by
  unfold cmpA
  by_cases h1 : a < b
  · rw [if_pos h1, beq_eq_false_iff_ne.2 (by omega)]; rfl
  · by_cases h2 : b < a
    · rw [if_neg h1, if_pos h2, beq_eq_false_iff_ne.2 (by omega)]; rfl
    · rw [if_neg h1, if_neg h2, beq_iff_eq.2 (by omega)]; rfl
theorem ret_two {p a : Nat} {x y : Bool} (h : p = a) (h2 : x = y) : Ending.returned (.tuple #[.int .i64 a, .bool y]) = .returned (.tuple #[.int .i64 p, .bool x]) := by rw [h, h2]
theorem below_at {α : Type} {N : Int} {l : List (Sl α)} (h : Asc N l) {j : Nat} (hj : j < l.length) {t : Int} (ht : l[j].id < t) {k : Nat} (hk : k < l.length) (hkj : k ≤ j) : l[k].id < t := by
  rcases Nat.lt_or_eq_of_le hkj with hlt | rfl
  · have := asc_lt h hk hj hlt; omega
  · exact ht
theorem above_at {α : Type} {N : Int} {l : List (Sl α)} (h : Asc N l) {j : Nat} (hj : j < l.length) {t : Int} (ht : t ≤ l[j].id) {k : Nat} (hk : k < l.length) (hkj : j ≤ k) : t ≤ l[k].id := by
  rcases Nat.lt_or_eq_of_le hkj with hlt | rfl
  · have := asc_lt h hj hk hlt; omega
  · exact ht
/-- an arena's own blocks: its own, and the one of its slots -/
def Arm (p : Nat) (v : Value) (k : Nat) : Prop := k = p ∨ v.ownBlock = some k
end Go.Proofs.Ytcdcgdblchchkaa.P4

/- The slices that layer 5 has, beside those of integers: of slots of nodes, of nodes, of attributes, of the law's deeds. No condition. -/
set_option linter.unusedVariables false
set_option linter.unusedSimpArgs false
namespace Go.Proofs.Ytcdcgdblchchkaa.P4
open Go.RowKit Kd

theorem infoA : (Try.prog.info? 98).map (fun i => (i.zero, i.size, i.bytes)) = some (some (.agg #[.string ⟨#[]⟩, .string ⟨#[]⟩, .bool false]), 3, 40) := by kernel_rfl
def kA : Kind Try.prog P3.At where
  t := 42
  e := 98
  size := 3
  bytes := 40
  z := .agg #[.string ⟨#[]⟩, .string ⟨#[]⟩, .bool false]
  cs := fun a => [.string a.nm, .string a.vl, .bool a.st]
  ht := Try.underlying42
  info := info_ex infoA
  hzs := rfl
  hpos := by decide
  hbb := by decide
  len := fun _ => rfl
  one := fun a u hu => by simp at hu; rcases hu with rfl | rfl | rfl <;> rfl

/-- a slice, as a value that lies in a cell -/
structure Sv where
  A : Option Addr
  n : Nat
  c : Nat
def Sv.val (s : Sv) : Value := .slice s.A s.n s.c
/-- a node as its cells are -/
structure RN where
  id : Int
  par : Int
  tag : ByteArray
  txt : ByteArray
  key : ByteArray
  va : Sv
  vk : Sv
  note : Int
def RN.cells (a : RN) : List Value := [.int .i64 a.id, .int .i64 a.par, .string a.tag, .string a.txt, .string a.key, a.va.val, a.vk.val, .int .i64 a.note]
/-- a deed of the law, as its cells are -/
structure RE where
  what : Int
  next : Bool
  op : Int
  rid : Int
  par : Int
  bef : Int
  tag : ByteArray
  txt : ByteArray
  key : ByteArray
  va : Sv
  id : Int
  n : Int
def RE.cells (a : RE) : List Value := [.int .i64 a.what, .bool a.next, .int .i64 a.op, .int .i64 a.rid, .int .i64 a.par, .int .i64 a.bef, .string a.tag, .string a.txt, .string a.key, a.va.val, .int .i64 a.id, .int .i64 a.n]
end Go.Proofs.Ytcdcgdblchchkaa.P4

/- Instructions: which may be; what placketref11.May answers; instructions as they lie in memory. No condition but those stated. -/
set_option linter.unusedVariables false
set_option linter.unusedSimpArgs false
namespace Go.Proofs.Ytcdcgdblchchkaa.P11
open Go.RowKit Kd P4

structure In where
  op : Int
  a : ByteArray
  b : ByteArray
def mayI (i : In) : Bool :=
  if i.op = 1 then P1.nameB i.a.data.toList && !P1.voidB i.a.data.toList && P1.textB i.b.data.toList
  else if i.op = 3 then P1.voidB i.a.data.toList && P1.textB i.b.data.toList
  else if i.op = 4 then P1.textB i.a.data.toList && i.b.toList.isEmpty
  else if i.op = 5 ∨ i.op = 6 then P1.nameB i.a.data.toList && P1.textB i.b.data.toList
  else if i.op = 2 ∨ i.op = 7 ∨ i.op = 8 then i.a.toList.isEmpty && i.b.toList.isEmpty
  else false
theorem infoX : (Try.prog.info? 59).map (fun i => (i.zero, i.size, i.bytes)) = some (some (.agg #[.int .i64 0, .string ⟨#[]⟩, .string ⟨#[]⟩]), 3, 40) := by kernel_rfl
def In.cells (i : In) : List Value := [.int .i64 i.op, .string i.a, .string i.b]
def kX : Kind Try.prog In where
  t := 23
  e := 59
  size := 3
  bytes := 40
  z := .agg #[.int .i64 0, .string ⟨#[]⟩, .string ⟨#[]⟩]
  cs := In.cells
  ht := Try.underlying23
  info := info_ex infoX
  hzs := rfl
  hpos := by decide
  hbb := by decide
  len := fun _ => rfl
  one := fun a u hu => by simp [In.cells] at hu; rcases hu with rfl | rfl | rfl <;> rfl
theorem cell_of_ins {w : World} {B : Nat} {A : Option Addr} {l : List In} (h : kX.Holds w B A l) {k : Nat} (hk : k < l.length) :
    ∃ b o, A = some ⟨b, o, none⟩ ∧ b < B ∧ w.cell? ⟨b, o + k * 3, none⟩ = some (.int .i64 l[k].op) ∧ w.cell? ⟨b, o + k * 3 + 1, none⟩ = some (.string l[k].a) ∧ w.cell? ⟨b, o + k * 3 + 2, none⟩ = some (.string l[k].b) := by
  obtain ⟨b, o, rfl, hb, hc⟩ := h.at hk
  exact ⟨b, o, rfl, hb, hc 0 _ rfl, hc 1 _ rfl, hc 2 _ rfl⟩
/-- an instruction in a block of its own -/
def XB (w : World) (s : Nat) (i : In) : Prop := w.heap[s]? = some (.cells #[.int .i64 i.op, .string i.a, .string i.b] 59 (0, 0))
section
variable {w w' : World} {s C : Nat} {i : In}
theorem XB.new (w : World) (i : In) : XB (w.alloc (.cells #[.int .i64 i.op, .string i.a, .string i.b] 59)) w.heap.size i := heap_alloc_new w _
theorem XB.lt (h : XB w s i) : s < w.heap.size := heap_lt h
theorem XB.below (h : XB w s i) (hb : Below C w w') (hC : s < C) : XB w' s i := (hb.block s hC).trans h
theorem XB.c0 (h : XB w s i) : w.cell? ⟨s, 0, none⟩ = some (.int .i64 i.op) := cell_of_row w s 0 _ _ (0, 0) h
theorem XB.c1 (h : XB w s i) : w.cell? ⟨s, 1, none⟩ = some (.string i.a) := cell_of_row w s 1 _ _ (0, 0) h
theorem XB.c2 (h : XB w s i) : w.cell? ⟨s, 2, none⟩ = some (.string i.b) := cell_of_row w s 2 _ _ (0, 0) h
theorem XB.fr (h : XB w s i) (k : Nat) : w.frozen? ⟨s, k, none⟩ = false := by simp [World.frozen?, (show w.heap[s]? = _ from h)]
end
theorem int_eq {a b : Int} (h : a = b) : (a == b) = true := by simp [h]
theorem int_ne {a b : Int} (h : ¬ a = b) : (a == b) = false := by simpa using h
end Go.Proofs.Ytcdcgdblchchkaa.P11

/- An instruction, opened out of an argument. No condition. -/
set_option linter.unusedVariables false
set_option linter.unusedSimpArgs false
namespace Go.Proofs.Ytcdcgdblchchkaa.P11
open Go.RowKit Go.ChangeShapes Go.WideShapes Go.Deep Kd P4

theorem cellsX : Try.prog.cellsOf 59 = 3 := by kernel_rfl
theorem cellsS : Try.prog.cellsOf 9 = 1 := by kernel_rfl
theorem cellsI : Try.prog.cellsOf 3 = 1 := by kernel_rfl
theorem laidOut : laidOutB Try.prog = true := by kernel_rfl
set_option maxRecDepth 100000 in
theorem open_ins_cells {H : Type} {enc : TypeId × Value → H} {w : World} (fuel : Nat) (cs : List Value) (x : DataW H × List MemPlace) (hx : DataW.trod enc Try.prog w 0 (fun _ => true) true fuel 59 cs = some x) (hlen : cs.length = 3) :
    ∃ a : In, cs = a.cells ∧ (a.a.size ≤ maxLen ∧ a.b.size ≤ maxLen) := by
  obtain ⟨xs, k, hk, hxy, _, hxl, hg⟩ := DataW.trod_struct Try.underlying59 hx
  match cs, hlen with
  | [v0, v1, v2], _ =>
    have g0 := hg 0 _ rfl
    have g1 := hg 1 _ rfl
    have g2 := hg 2 _ rfl
    simp [cellsS, cellsI] at g0 g1 g2
    have x0 : xs[0]? = some (xs[0]'(by rw [hxl]; decide)) := List.getElem?_eq_getElem _
    have x1 : xs[1]? = some (xs[1]'(by rw [hxl]; decide)) := List.getElem?_eq_getElem _
    have x2 : xs[2]? = some (xs[2]'(by rw [hxl]; decide)) := List.getElem?_eq_getElem _
    rw [x0] at g0
    rw [x1] at g1
    rw [x2] at g2
    obtain ⟨s0, hs0, _⟩ := DataW.trod_int Try.underlying3 g0
    obtain ⟨s1, hs1, _, hz1⟩ := DataW.trod_string Try.underlying9 g1
    obtain ⟨s2, hs2, _, hz2⟩ := DataW.trod_string Try.underlying9 g2
    injection hs0 with hs0 _
    injection hs1 with hs1 _
    injection hs2 with hs2 _
    subst hs0; subst hs1; subst hs2
    exact ⟨⟨s0, s1, s2⟩, rfl, hz1, hz2⟩
set_option maxRecDepth 100000 in
theorem open_ins {H : Type} {enc : TypeId × Value → H} {w : World} {v : Value} {d : DataW H} {p : List MemPlace} {base : Nat}
    (hv : Value.okWide Try.prog w .any base 59 v) (h : DataW.Trod enc Try.prog w 0 (fun _ => true) true 59 v d p) :
    ∃ a : In, v = .agg #[.int .i64 a.op, .string a.a, .string a.b] ∧ a.a.size ≤ maxLen ∧ a.b.size ≤ maxLen := by
  obtain ⟨cs, rfl, hs⟩ := okWide_struct Try.underlying59 hv
  obtain ⟨fuel, hf⟩ := h
  obtain ⟨a, hc, h1, h2⟩ := open_ins_cells fuel _ _ hf (by simpa [Value.cells, cellsX] using hs)
  refine ⟨a, ?_, h1, h2⟩
  have e : cs.toList = a.cells := by simpa [Value.cells] using hc
  rw [← Array.toArray_toList (xs := cs), e]
  rfl
end Go.Proofs.Ytcdcgdblchchkaa.P11

/- Programs as bytes, plain: what was put is got, what is got has those bytes. No condition. -/
set_option linter.unusedVariables false
set_option linter.unusedSimpArgs false
namespace Go.Proofs.Ytcdcgdblchchkaa.P12
open Go.RowKit Kd P4 P11

def bs (l : List UInt8) : ByteArray := ⟨l.toArray⟩
theorem bs_data (l : List UInt8) : (bs l).data.toList = l := by simp [bs]
theorem bs_eta (b : ByteArray) : bs b.data.toList = b := by
  apply ByteArray.ext
  simp [bs]
theorem bs_size (l : List UInt8) : (bs l).size = l.length := by show l.toArray.size = _; simp
theorem bs_nil {b : ByteArray} (h : b.toList.isEmpty = true) : b = bs [] := by
  rw [ByteArray.toList_eq, List.isEmpty_iff] at h
  rw [← h, bs_eta]
/-- how many texts an op has -/
def textsN (op : Int) : Nat := if op = 1 ∨ op = 3 ∨ op = 5 ∨ op = 6 then 2 else if op = 4 then 1 else 0
def textH (s : ByteArray) : List UInt8 := UInt8.ofNat s.size :: s.data.toList
def byteOf (op : Int) : UInt8 := UInt8.ofNat op.toNat
def insH (i : In) : List UInt8 := byteOf i.op :: ((if 0 < textsN i.op then textH i.a else []) ++ (if 1 < textsN i.op then textH i.b else []))
def putI (l : List In) : List UInt8 := l.flatMap insH
/-- a text that bytes begin with, and what stands behind -/
def cut1 : List UInt8 → Option (List UInt8 × List UInt8)
  | [] => none
  | k :: r => if r.length < k.toNat then none else some (r.take k.toNat, r.drop k.toNat)
def candI (c : UInt8) (r : List UInt8) : Option (In × List UInt8) :=
  if textsN c.toNat = 0 then some (⟨c.toNat, bs [], bs []⟩, r)
  else match cut1 r with
    | none => none
    | some (t, r1) =>
      if textsN c.toNat = 1 then some (⟨c.toNat, bs t, bs []⟩, r1)
      else match cut1 r1 with
        | none => none
        | some (u, r2) => some (⟨c.toNat, bs t, bs u⟩, r2)
/-- the instruction that bytes begin with, and what stands behind -/
def oneP : List UInt8 → Option (In × List UInt8)
  | [] => none
  | c :: r => match candI c r with
    | none => none
    | some (i, r1) => if mayI i then some (i, r1) else none
def getI : Nat → List UInt8 → List In → List In × Nat
  | 0, _, acc => (acc, 0)
  | f + 1, b, acc =>
    if b = [] then (acc, 0)
    else match oneP b with
      | none => ([], 7)
      | some (i, r) => if acc.length = 120 then ([], 13) else getI f r (acc ++ [i])
def getP (b : List UInt8) : List In × Nat := getI (b.length + 1) b []
/-! ### What may be is small -/
theorem nameB_len {l : List UInt8} (h : P1.nameB l = true) : l.length ≤ 60 := by
  cases l with
  | nil => simp
  | cons c r =>
    simp only [P1.nameB, Bool.and_eq_true, decide_eq_true_eq] at h
    simp
    omega
theorem textB_len {l : List UInt8} (h : P1.textB l = true) : l.length ≤ 60 := by
  simp only [P1.textB, Bool.and_eq_true, decide_eq_true_eq] at h
  omega
theorem voidB_len {l : List UInt8} (h : P1.voidB l = true) : l.length ≤ 60 := by
  simp only [P1.voidB, Bool.or_eq_true, beq_iff_eq] at h
  rcases h with ((rfl | rfl) | rfl) | rfl <;> decide
theorem len_size (b : ByteArray) : b.data.toList.length = b.size := by simp
theorem may_small {i : In} (h : mayI i = true) : i.a.size ≤ 60 ∧ i.b.size ≤ 60 ∧ 1 ≤ i.op ∧ i.op ≤ 8 ∧ (textsN i.op = 0 → i.a = bs [] ∧ i.b = bs []) ∧ (textsN i.op = 1 → i.b = bs []) := by
  obtain ⟨op, a, b⟩ := i
  unfold mayI at h
  simp only at h ⊢
  have ea := len_size a
  have eb := len_size b
  have nil_size : ∀ {x : ByteArray}, x.toList.isEmpty = true → x.size ≤ 60 := fun {x} hx => by rw [bs_nil hx, bs_size]; simp
  by_cases h1 : op = 1
  · subst h1
    rw [if_pos rfl] at h
    simp only [Bool.and_eq_true] at h
    have := nameB_len h.1.1
    have := textB_len h.2
    refine ⟨by omega, by omega, by omega, by omega, fun e => by simp [textsN] at e, fun e => by simp [textsN] at e⟩
  rw [if_neg h1] at h
  by_cases h3 : op = 3
  · subst h3
    rw [if_pos rfl] at h
    simp only [Bool.and_eq_true] at h
    have := voidB_len h.1
    have := textB_len h.2
    refine ⟨by omega, by omega, by omega, by omega, fun e => by simp [textsN] at e, fun e => by simp [textsN] at e⟩
  rw [if_neg h3] at h
  by_cases h4 : op = 4
  · subst h4
    rw [if_pos rfl] at h
    simp only [Bool.and_eq_true] at h
    have := textB_len h.1
    have := nil_size h.2
    refine ⟨by omega, by omega, by omega, by omega, fun e => by simp [textsN] at e, fun _ => bs_nil h.2⟩
  rw [if_neg h4] at h
  by_cases h5 : op = 5 ∨ op = 6
  · rw [if_pos h5] at h
    simp only [Bool.and_eq_true] at h
    have := nameB_len h.1
    have := textB_len h.2
    refine ⟨by omega, by omega, by omega, by omega, fun e => ?_, fun e => ?_⟩
    · rcases h5 with rfl | rfl <;> simp [textsN] at e
    · rcases h5 with rfl | rfl <;> simp [textsN] at e
  rw [if_neg h5] at h
  by_cases h2 : op = 2 ∨ op = 7 ∨ op = 8
  · rw [if_pos h2] at h
    simp only [Bool.and_eq_true] at h
    have := nil_size h.1
    have := nil_size h.2
    refine ⟨by omega, by omega, by omega, by omega, fun _ => ⟨bs_nil h.1, bs_nil h.2⟩, fun e => ?_⟩
    rcases h2 with rfl | rfl | rfl <;> simp [textsN] at e
  rw [if_neg h2] at h
  cases h
theorem textsN_cases (op : Int) : textsN op = 0 ∨ textsN op = 1 ∨ textsN op = 2 := by
  unfold textsN
  split
  · exact .inr (.inr rfl)
  · split
    · exact .inr (.inl rfl)
    · exact .inl rfl
theorem byte_size {s : ByteArray} (h : s.size ≤ 255) : (UInt8.ofNat s.size).toNat = s.size := by simp; omega
theorem cut_text {s : ByteArray} {r : List UInt8} (h : s.size ≤ 255) : cut1 (textH s ++ r) = some (s.data.toList, r) := by
  rw [textH, List.cons_append, cut1, byte_size h, if_neg (by simp)]
  rw [← len_size s, List.take_left, List.drop_left]
theorem byteOf_nat {op : Int} (h1 : 1 ≤ op) (h8 : op ≤ 8) : ((byteOf op).toNat : Int) = op := by
  unfold byteOf
  simp
  omega
theorem one_put {i : In} {r : List UInt8} (h : mayI i = true) : oneP (insH i ++ r) = some (i, r) := by
  obtain ⟨h1, h2, h3, h4, h5, h6⟩ := may_small h
  have hb := byteOf_nat h3 h4
  have ha : cut1 (textH i.a ++ r) = some (i.a.data.toList, r) := cut_text (by omega)
  have key : candI (byteOf i.op) (((if 0 < textsN i.op then textH i.a else []) ++ (if 1 < textsN i.op then textH i.b else [])) ++ r) = some (i, r) := by
    unfold candI
    rw [hb]
    rcases textsN_cases i.op with e | e | e
    · rw [e, if_pos rfl, if_neg (by decide), if_neg (by decide)]
      obtain ⟨e1, e2⟩ := h5 e
      obtain ⟨op, a, b⟩ := i
      simp only at e1 e2
      rw [e1, e2]
      rfl
    · rw [e, if_neg (by decide), if_pos (by decide), if_neg (by decide), List.append_nil, ha]
      have e2 := h6 e
      obtain ⟨op, a, b⟩ := i
      simp only at e2 ⊢
      rw [e2, bs_eta]
      rfl
    · rw [e, if_neg (by decide), if_pos (by decide), if_pos (by decide), List.append_assoc, cut_text (by omega)]
      simp only
      rw [if_neg (by decide), cut_text (by omega)]
      simp only
      rw [bs_eta, bs_eta]
  rw [insH, List.cons_append, oneP, key]
  simp only
  rw [if_pos h]
theorem insH_pos (i : In) : 1 ≤ (insH i).length := by simp [insH]
theorem putI_cons (i : In) (l : List In) : putI (i :: l) = insH i ++ putI l := rfl
theorem get_put : ∀ (l : List In) (f : Nat) (acc : List In), (∀ i ∈ l, mayI i = true) → acc.length + l.length ≤ 120 → (putI l).length < f → getI f (putI l) acc = (acc ++ l, 0)
  | [], f, acc, _, _, hf => by
    obtain ⟨f, rfl⟩ : ∃ g, f = g + 1 := ⟨f - 1, by omega⟩
    rw [getI, if_pos (by simp [putI])]
    simp
  | i :: l, f, acc, hm, hl, hf => by
    obtain ⟨f, rfl⟩ : ∃ g, f = g + 1 := ⟨f - 1, by omega⟩
    have hp := insH_pos i
    rw [putI_cons, List.length_append] at hf
    rw [getI, putI_cons, if_neg (by intro e; have := congrArg List.length e; rw [List.length_append, List.length_nil] at this; omega), one_put (hm i (by simp))]
    simp only [List.length_cons] at hl ⊢
    rw [if_neg (by omega), get_put l f (acc ++ [i]) (fun k hk => hm k (by simp [hk])) (by simp; omega) (by omega)]
    simp
theorem get_many : ∀ (l : List In) (f : Nat) (acc : List In), (∀ i ∈ l, mayI i = true) → acc.length ≤ 120 → 120 < acc.length + l.length → (putI l).length < f → getI f (putI l) acc = ([], 13)
  | [], f, acc, _, h1, h2, hf => by simp at h2; omega
  | i :: l, f, acc, hm, h1, h2, hf => by
    obtain ⟨f, rfl⟩ : ∃ g, f = g + 1 := ⟨f - 1, by omega⟩
    have hp := insH_pos i
    rw [putI_cons, List.length_append] at hf
    rw [getI, putI_cons, if_neg (by intro e; have := congrArg List.length e; rw [List.length_append, List.length_nil] at this; omega), one_put (hm i (by simp))]
    simp only [List.length_cons] at h2 ⊢
    by_cases he : acc.length = 120
    · rw [if_pos he]
    · rw [if_neg he, get_many l f (acc ++ [i]) (fun k hk => hm k (by simp [hk])) (by simp; omega) (by simp; omega) (by omega)]
theorem cut_back {b t r : List UInt8} (h : cut1 b = some (t, r)) : b = textH (bs t) ++ r ∧ t.length ≤ 255 := by
  cases b with
  | nil => cases h
  | cons k s =>
    rw [cut1] at h
    split at h
    · cases h
    · injection h with h
      injection h with e1 e2
      have hk := k.toNat_lt
      have hl : t.length = k.toNat := by rw [← e1, List.length_take]; omega
      refine ⟨?_, by omega⟩
      rw [textH, bs_data, bs_size, hl, List.cons_append, ← e1, ← e2, List.take_append_drop]
      simp
theorem one_back {b : List UInt8} {i : In} {r : List UInt8} (h : oneP b = some (i, r)) : b = insH i ++ r ∧ mayI i = true := by
  cases b with
  | nil => cases h
  | cons c s =>
    rw [oneP] at h
    have hb : ∀ n : Nat, n = c.toNat → byteOf (n : Int) = c := fun n hn => by subst hn; unfold byteOf; simp
    cases hc : candI c s with
    | none => rw [hc] at h; cases h
    | some p =>
      obtain ⟨j, r1⟩ := p
      rw [hc] at h
      simp only at h
      split at h
      · rename_i hm
        injection h with h
        injection h with e1 e2
        subst e1; subst e2
        refine ⟨?_, hm⟩
        unfold candI at hc
        split at hc
        · rename_i e
          injection hc with hc
          injection hc with e1 e2
          subst e2
          rw [← e1, insH]
          simp only
          rw [e, if_neg (by decide), if_neg (by decide), hb _ rfl]
          rfl
        · rename_i e0
          cases h1 : cut1 s with
          | none => rw [h1] at hc; cases hc
          | some q =>
            obtain ⟨t, r2⟩ := q
            rw [h1] at hc
            simp only at hc
            obtain ⟨g1, _⟩ := cut_back h1
            split at hc
            · rename_i e
              injection hc with hc
              injection hc with e1 e2
              subst e2
              rw [← e1, insH]
              simp only
              rw [e, if_pos (by decide), if_neg (by decide), hb _ rfl, List.append_nil, List.cons_append, ← g1]
            · rename_i e1'
              have e2' : textsN (c.toNat : Int) = 2 := by
                rcases textsN_cases (c.toNat : Int) with e | e | e
                · exact absurd e e0
                · exact absurd e e1'
                · exact e
              cases h2 : cut1 r2 with
              | none => rw [h2] at hc; cases hc
              | some q2 =>
                obtain ⟨u, r3⟩ := q2
                rw [h2] at hc
                simp only at hc
                obtain ⟨g2, _⟩ := cut_back h2
                injection hc with hc
                injection hc with e1 e2
                subst e2
                rw [← e1, insH]
                simp only
                rw [e2', if_pos (by decide), if_pos (by decide), hb _ rfl, List.cons_append, List.append_assoc, ← g2, ← g1]
      · cases h
theorem get_back : ∀ (f : Nat) (b : List UInt8) (acc l : List In), getI f b acc = (l, 0) → b.length < f → acc.length ≤ 120 → ∃ m, l = acc ++ m ∧ putI m = b ∧ (∀ i ∈ m, mayI i = true) ∧ l.length ≤ 120
  | 0, b, acc, l, _, hf, _ => by omega
  | f + 1, b, acc, l, h, hf, ha => by
    rw [getI] at h
    split at h
    · rename_i hb
      injection h with h _
      subst h
      exact ⟨[], by simp, by rw [hb]; rfl, (by intro i hi; cases hi), ha⟩
    · cases ho : oneP b with
      | none => rw [ho] at h; simp at h
      | some p =>
        obtain ⟨i, r⟩ := p
        rw [ho] at h
        simp only at h
        obtain ⟨g1, g2⟩ := one_back ho
        have hp := insH_pos i
        have hl := congrArg List.length g1
        rw [List.length_append] at hl
        split at h
        · simp at h
        · rename_i hne
          obtain ⟨m, e1, e2, e3, e4⟩ := get_back f r (acc ++ [i]) l h (by omega) (by simp; omega)
          refine ⟨i :: m, by rw [e1]; simp, by rw [putI_cons, e2, ← g1], ?_, e4⟩
          intro k hk
          rcases List.mem_cons.1 hk with rfl | hk
          · exact g2
          · exact e3 k hk
theorem getI_code : ∀ (f : Nat) (b : List UInt8) (acc : List In), (getI f b acc).2 = 0 ∨ getI f b acc = ([], 7) ∨ getI f b acc = ([], 13)
  | 0, _, _ => .inl rfl
  | f + 1, b, acc => by
    rw [getI]
    split
    · exact .inl rfl
    · cases oneP b with
      | none => exact .inr (.inl rfl)
      | some p =>
        simp only
        split
        · exact .inr (.inr rfl)
        · exact getI_code f _ _
end Go.Proofs.Ytcdcgdblchchkaa.P12
