/- Instructions: which may be; what placketref11.May answers; instructions as they lie in memory. No condition but those stated. -/
import Derived.Deep.Cut
import Derived.Deep.Slices
import Derived.ChangeSame
import Derived.Carry
import Derived.Test.YtgpbgimobcdogaaM4
import Derived.Test.YtgpbgimobcdogaaM6
set_option linter.unusedVariables false
set_option linter.unusedSimpArgs false
set_option linter.unusedVariables false
set_option linter.unusedSimpArgs false
namespace Go.Proofs.Ytgpbgimobcdogaa.P11
open Go.RowKit Kd P4

structure In where
  op : Int
  a : ByteArray
  b : ByteArray
def mayI (i : In) : Bool :=
  if i.op = 1 then P1.nameB i.a.data.toList && !P1.voidB i.a.data.toList && P1.textB i.b.data.toList
  else if i.op = 3 then P1.voidB i.a.data.toList && P1.textB i.b.data.toList
  else if i.op = 4 then P1.textB i.a.data.toList && i.b.toList.isEmpty
  else if i.op = 5 ∨ i.op = 6 then P1.nameB i.a.data.toList && P1.textB i.b.data.toList
  else if i.op = 2 ∨ i.op = 7 ∨ i.op = 8 then i.a.toList.isEmpty && i.b.toList.isEmpty
  else false
theorem infoX : (Try.prog.info? 40).map (fun i => (i.zero, i.size, i.bytes)) = some (some (.agg #[.int .i64 0, .string ⟨#[]⟩, .string ⟨#[]⟩]), 3, 40) := by kernel_rfl
def In.cells (i : In) : List Value := [.int .i64 i.op, .string i.a, .string i.b]
def kX : Kind Try.prog In where
  t := 22
  e := 40
  size := 3
  bytes := 40
  z := .agg #[.int .i64 0, .string ⟨#[]⟩, .string ⟨#[]⟩]
  cs := In.cells
  ht := Try.underlying22
  info := info_ex infoX
  hzs := rfl
  hpos := by decide
  hbb := by decide
  len := fun _ => rfl
  one := fun a u hu => by simp [In.cells] at hu; rcases hu with rfl | rfl | rfl <;> rfl
theorem cell_of_ins {w : World} {B : Nat} {A : Option Addr} {l : List In} (h : kX.Holds w B A l) {k : Nat} (hk : k < l.length) :
    ∃ b o, A = some ⟨b, o, none⟩ ∧ b < B ∧ w.cell? ⟨b, o + k * 3, none⟩ = some (.int .i64 l[k].op) ∧ w.cell? ⟨b, o + k * 3 + 1, none⟩ = some (.string l[k].a) ∧ w.cell? ⟨b, o + k * 3 + 2, none⟩ = some (.string l[k].b) := by
  obtain ⟨b, o, rfl, hb, hc⟩ := h.at hk
  exact ⟨b, o, rfl, hb, hc 0 _ rfl, hc 1 _ rfl, hc 2 _ rfl⟩
/-- an instruction in a block of its own -/
def XB (w : World) (s : Nat) (i : In) : Prop := w.heap[s]? = some (.cells #[.int .i64 i.op, .string i.a, .string i.b] 40 (0, 0))
section
variable {w w' : World} {s C : Nat} {i : In}
theorem XB.new (w : World) (i : In) : XB (w.alloc (.cells #[.int .i64 i.op, .string i.a, .string i.b] 40)) w.heap.size i := heap_alloc_new w _
theorem XB.lt (h : XB w s i) : s < w.heap.size := heap_lt h
theorem XB.below (h : XB w s i) (hb : Below C w w') (hC : s < C) : XB w' s i := (hb.block s hC).trans h
theorem XB.c0 (h : XB w s i) : w.cell? ⟨s, 0, none⟩ = some (.int .i64 i.op) := cell_of_row w s 0 _ _ (0, 0) h
theorem XB.c1 (h : XB w s i) : w.cell? ⟨s, 1, none⟩ = some (.string i.a) := cell_of_row w s 1 _ _ (0, 0) h
theorem XB.c2 (h : XB w s i) : w.cell? ⟨s, 2, none⟩ = some (.string i.b) := cell_of_row w s 2 _ _ (0, 0) h
theorem XB.fr (h : XB w s i) (k : Nat) : w.frozen? ⟨s, k, none⟩ = false := by simp [World.frozen?, (show w.heap[s]? = _ from h)]
end
theorem int_eq {a b : Int} (h : a = b) : (a == b) = true := by simp [h]
theorem int_ne {a b : Int} (h : ¬ a = b) : (a == b) = false := by simpa using h
set_option maxHeartbeats 2000000 in
theorem rmayI_any (i : In) (w : World) (ha : i.a.size ≤ maxLen) (hb : i.b.size ≤ maxLen) : Calls Try.prog 33 #[.agg #[.int .i64 i.op, .string i.a, .string i.b]] w fun e w' => e = .returned (.bool (mayI i)) ∧ Below w.heap.size w w' := by
  obtain ⟨op, a, b⟩ := i
  have ha : a.size ≤ maxLen := ha
  have hb : b.size ≤ maxLen := hb
  have B1 : Hid (Below w.heap.size w (w.alloc (.cells #[.int .i64 op, .string a, .string b] 40))) := Lib.hid ((Below.refl _ _).alloc (Nat.le_refl _) _)
  have N1 : Hid (XB (w.alloc (.cells #[.int .i64 op, .string a, .string b] 40)) w.heap.size ⟨op, a, b⟩) := Lib.hid (XB.new w ⟨op, a, b⟩)
  obtain ⟨bn, hbn⟩ : ∃ x, P1.nameB a.data.toList = x := ⟨_, rfl⟩
  obtain ⟨bv, hbv⟩ : ∃ x, P1.voidB a.data.toList = x := ⟨_, rfl⟩
  obtain ⟨bx, hbx⟩ : ∃ x, P1.textB a.data.toList = x := ⟨_, rfl⟩
  obtain ⟨bz, hby⟩ : ∃ x, P1.textB b.data.toList = x := ⟨_, rfl⟩
  have HM : Hid (mayI ⟨op, a, b⟩ = if op = 1 then bn && !bv && bz else if op = 3 then bv && bz else if op = 4 then bx && b.toList.isEmpty else if op = 5 ∨ op = 6 then bn && bz else if op = 2 ∨ op = 7 ∨ op = 8 then a.toList.isEmpty && b.toList.isEmpty else false) := Lib.hid (by unfold mayI; simp only [hbn, hbv, hbx, hby])
  have HN := Lib.hid hbn
  have HV := Lib.hid hbv
  have HX := Lib.hid hbx
  have HY := Lib.hid hby
  clear hbn hbv hbx hby
  show Calls Try.prog 33 #[.agg #[.int .i64 op, .string a, .string b]] w _
  go_enter Try.func33, Try.ntmps33
  go_upto_region 1 with fail
  generalize w.alloc (.cells #[.int .i64 op, .string a, .string b] 40) = W at B1 N1 ⊢
  have c0 := N1.out.c0; have c1 := N1.out.c1; have c2 := N1.out.c2
  simp only at c0 c1 c2
  go_wp2_with fail
  refine (P3.rname_at a _ HN.out ha).mono ?_
  rintro e w' ⟨rfl, rfl⟩
  go_wp2_with fail
  refine (P1.rvoid_any a _).mono ?_
  rintro e w' ⟨rfl, rfl⟩
  rw [HV.out]
  go_wp2_with fail
  refine (P3.rtext_at a _ HX.out ha).mono ?_
  rintro e w' ⟨rfl, rfl⟩
  go_wp2_with fail
  refine (P3.rtext_at b _ HY.out hb).mono ?_
  rintro e w' ⟨rfl, rfl⟩
  by_cases h1 : op = 1
  · subst h1
    have HM2 : Hid (mayI ⟨1, a, b⟩ = (bn && !bv && bz)) := Lib.hid (by rw [HM.out, if_pos rfl])
    clear HM HN HV HX HY
    cases bn <;> cases bv <;> cases bz <;> (go_wp2_with fail; go_ret; exact ⟨by rw [HM2.out]; rfl, B1.out⟩)
  by_cases h3 : op = 3
  · subst h3
    have HM2 : Hid (mayI ⟨3, a, b⟩ = (bv && bz)) := Lib.hid (by rw [HM.out, if_neg (by decide), if_pos rfl])
    clear HM HN HV HX HY
    cases bv <;> cases bz <;> (go_wp2_with fail; go_ret; exact ⟨by rw [HM2.out]; rfl, B1.out⟩)
  by_cases h4 : op = 4
  · subst h4
    have HM2 : Hid (mayI ⟨4, a, b⟩ = (bx && b.toList.isEmpty)) := Lib.hid (by rw [HM.out, if_neg (by decide), if_neg (by decide), if_pos rfl])
    clear HM HN HV HX HY
    cases bE : b.toList.isEmpty <;> rw [bE] at HM2 <;> cases bx <;> (go_wp2_with fail; go_ret; exact ⟨by rw [HM2.out]; rfl, B1.out⟩)
  by_cases h5 : op = 5
  · subst h5
    have HM2 : Hid (mayI ⟨5, a, b⟩ = (bn && bz)) := Lib.hid (by rw [HM.out, if_neg (by decide), if_neg (by decide), if_neg (by decide), if_pos (by decide)])
    clear HM HN HV HX HY
    cases bn <;> cases bz <;> (go_wp2_with fail; go_ret; exact ⟨by rw [HM2.out]; rfl, B1.out⟩)
  by_cases h6 : op = 6
  · subst h6
    have HM2 : Hid (mayI ⟨6, a, b⟩ = (bn && bz)) := Lib.hid (by rw [HM.out, if_neg (by decide), if_neg (by decide), if_neg (by decide), if_pos (by decide)])
    clear HM HN HV HX HY
    cases bn <;> cases bz <;> (go_wp2_with fail; go_ret; exact ⟨by rw [HM2.out]; rfl, B1.out⟩)
  by_cases h2 : op = 2
  · subst h2
    have HM2 : Hid (mayI ⟨2, a, b⟩ = (a.toList.isEmpty && b.toList.isEmpty)) := Lib.hid (by rw [HM.out, if_neg (by decide), if_neg (by decide), if_neg (by decide), if_neg (by decide), if_pos (by decide)])
    clear HM HN HV HX HY
    cases aE : a.toList.isEmpty <;> cases bE : b.toList.isEmpty <;> rw [aE, bE] at HM2 <;> (go_wp2_with fail; go_ret; exact ⟨by rw [HM2.out]; rfl, B1.out⟩)
  by_cases h7 : op = 7
  · subst h7
    have HM2 : Hid (mayI ⟨7, a, b⟩ = (a.toList.isEmpty && b.toList.isEmpty)) := Lib.hid (by rw [HM.out, if_neg (by decide), if_neg (by decide), if_neg (by decide), if_neg (by decide), if_pos (by decide)])
    clear HM HN HV HX HY
    cases aE : a.toList.isEmpty <;> cases bE : b.toList.isEmpty <;> rw [aE, bE] at HM2 <;> (go_wp2_with fail; go_ret; exact ⟨by rw [HM2.out]; rfl, B1.out⟩)
  by_cases h8 : op = 8
  · subst h8
    have HM2 : Hid (mayI ⟨8, a, b⟩ = (a.toList.isEmpty && b.toList.isEmpty)) := Lib.hid (by rw [HM.out, if_neg (by decide), if_neg (by decide), if_neg (by decide), if_neg (by decide), if_pos (by decide)])
    clear HM HN HV HX HY
    cases aE : a.toList.isEmpty <;> cases bE : b.toList.isEmpty <;> rw [aE, bE] at HM2 <;> (go_wp2_with fail; go_ret; exact ⟨by rw [HM2.out]; rfl, B1.out⟩)
  have HM2 : Hid (mayI ⟨op, a, b⟩ = false) := Lib.hid (by rw [HM.out]; simp [h1, h2, h3, h4, h5, h6, h7, h8])
  have q1 := int_ne h1; have q2 := int_ne h2; have q3 := int_ne h3; have q4 := int_ne h4; have q5 := int_ne h5; have q6 := int_ne h6; have q7 := int_ne h7; have q8 := int_ne h8
  clear HM HN HV HX HY
  go_wp2_with fail
  go_ret
  exact ⟨by rw [HM2.out]; rfl, B1.out⟩
end Go.Proofs.Ytgpbgimobcdogaa.P11

/- An instruction, opened out of an argument. No condition. -/
set_option linter.unusedVariables false
set_option linter.unusedSimpArgs false
namespace Go.Proofs.Ytgpbgimobcdogaa.P11
open Go.RowKit Go.ChangeShapes Go.WideShapes Go.Deep Kd P4

theorem cellsX : Try.prog.cellsOf 40 = 3 := by kernel_rfl
theorem cellsS : Try.prog.cellsOf 9 = 1 := by kernel_rfl
theorem cellsI : Try.prog.cellsOf 3 = 1 := by kernel_rfl
theorem laidOut : laidOutB Try.prog = true := by kernel_rfl
set_option maxRecDepth 100000 in
theorem open_ins_cells {H : Type} {enc : TypeId × Value → H} {w : World} (fuel : Nat) (cs : List Value) (x : DataW H × List MemPlace) (hx : DataW.trod enc Try.prog w 0 (fun _ => true) true fuel 40 cs = some x) (hlen : cs.length = 3) :
    ∃ a : In, cs = a.cells ∧ (a.a.size ≤ maxLen ∧ a.b.size ≤ maxLen) := by
  obtain ⟨xs, k, hk, hxy, _, hxl, hg⟩ := DataW.trod_struct Try.underlying40 hx
  match cs, hlen with
  | [v0, v1, v2], _ =>
    have g0 := hg 0 _ rfl
    have g1 := hg 1 _ rfl
    have g2 := hg 2 _ rfl
    simp [cellsS, cellsI] at g0 g1 g2
    have x0 : xs[0]? = some (xs[0]'(by rw [hxl]; decide)) := List.getElem?_eq_getElem _
    have x1 : xs[1]? = some (xs[1]'(by rw [hxl]; decide)) := List.getElem?_eq_getElem _
    have x2 : xs[2]? = some (xs[2]'(by rw [hxl]; decide)) := List.getElem?_eq_getElem _
    rw [x0] at g0
    rw [x1] at g1
    rw [x2] at g2
    obtain ⟨s0, hs0, _⟩ := DataW.trod_int Try.underlying3 g0
    obtain ⟨s1, hs1, _, hz1⟩ := DataW.trod_string Try.underlying9 g1
    obtain ⟨s2, hs2, _, hz2⟩ := DataW.trod_string Try.underlying9 g2
    injection hs0 with hs0 _
    injection hs1 with hs1 _
    injection hs2 with hs2 _
    subst hs0; subst hs1; subst hs2
    exact ⟨⟨s0, s1, s2⟩, rfl, hz1, hz2⟩
set_option maxRecDepth 100000 in
theorem open_ins {H : Type} {enc : TypeId × Value → H} {w : World} {v : Value} {d : DataW H} {p : List MemPlace} {base : Nat}
    (hv : Value.okWide Try.prog w .any base 40 v) (h : DataW.Trod enc Try.prog w 0 (fun _ => true) true 40 v d p) :
    ∃ a : In, v = .agg #[.int .i64 a.op, .string a.a, .string a.b] ∧ a.a.size ≤ maxLen ∧ a.b.size ≤ maxLen := by
  obtain ⟨cs, rfl, hs⟩ := okWide_struct Try.underlying40 hv
  obtain ⟨fuel, hf⟩ := h
  obtain ⟨a, hc, h1, h2⟩ := open_ins_cells fuel _ _ hf (by simpa [Value.cells, cellsX] using hs)
  refine ⟨a, ?_, h1, h2⟩
  have e : cs.toList = a.cells := by simpa [Value.cells] using hc
  rw [← Array.toArray_toList (xs := cs), e]
  rfl
end Go.Proofs.Ytgpbgimobcdogaa.P11
