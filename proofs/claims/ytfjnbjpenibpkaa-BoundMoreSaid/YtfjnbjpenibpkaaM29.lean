/- Layer 11's example, and the walk of InsTells, over the contracts of the program's calls. No condition but those stated. -/
import Derived.Deep.RegionHeld3
import Derived.Deep.RegionWith
import Derived.Test.YtfjnbjpenibpkaaM8
set_option linter.unusedVariables false
set_option linter.unusedSimpArgs false
namespace Go.Proofs.Ytfjnbjpenibpkaa.P11
open Go.RowKit Kd P4
set_option linter.unusedSimpArgs false
set_option linter.unusedVariables false

def makesB (op : Int) : Bool := op == 1 || op == 3 || op == 4
def tellsB (op : Int) : Bool := op == 5 || op == 6
def IMayC : Prop := ∀ (i : In) (w : World), i.a.size ≤ 100000 → i.b.size ≤ 100000 → Calls Try.prog 20 #[.agg #[.int .i64 i.op, .string i.a, .string i.b]] w fun e w' => e = .returned (.bool (mayI i)) ∧ Below w.heap.size w w'
def TellsC : Prop := ∀ (op : Int) (w : World), Calls Try.prog 21 #[.int .i64 op] w fun e w' => e = .returned (.bool (tellsB op)) ∧ Below w.heap.size w w'
theorem c0 : (⟨#[]⟩ : ByteArray).toList = [] := by rw [ByteArray.toList_eq]
theorem bl_call {a w w5 : World} (b5 : Below w.heap.size w w5) (h : Below a.heap.size a w) : Below a.heap.size a w5 := h.trans (b5.mono h.size)
theorem take_at {P : Program} {ops : Array Oper} {Q : Exit → Act → World → Prop} {md : Region.Mode} {S : World → Prop} {d i : Nat} {oi : Oper} {v : Value} {fuel : Nat} {listed : Array Bool} {a : Act} {w : World} (hi : ops[i]? = some oi) (hd : oi.dst = some d)
    (hs : Region.noSelect ops = true) (hf : Region.free md ops listed i = true) (hr : (Region.ready md ops listed).contains i = true)
    (hQ : ∀ c a w, Q (.panic c) (a.put (some d) v) w → Q (.panic c) a w) (hy : YieldsIf P ops S oi v a) (hS : S w)
    (h : wpAnyH P md ops Q S fuel (listed.setIfInBounds i true) (a.put (some d) v) w) : wpAnyH P md ops Q S (fuel + 1) listed a w :=
  wpAnyH_take hi hs hf hr (by rw [hd]; exact hQ) hy hS (by rw [hd]; exact h)
theorem bl_drewN {B : Nat} {a w : World} (h : Below B a w) (n : Nat) : Below B a (w.drewN n) := ⟨h.os, h.tape, h.output, h.size, h.block⟩
theorem bl_alloc {a w : World} (h : Below a.heap.size a w) (o : Obj) : Below a.heap.size a (w.alloc o) := h.alloc h.size o
theorem bl_drew {B : Nat} {a w : World} (h : Below B a w) : Below B a w.drew := ⟨h.os, h.tape, h.output, h.size, h.block⟩
end Go.Proofs.Ytfjnbjpenibpkaa.P11

/- The program's ins.May, ins.Makes and ins.Tells keep their contracts. No condition but those stated. -/
set_option linter.unusedVariables false
set_option linter.unusedSimpArgs false
namespace Go.Proofs.Ytfjnbjpenibpkaa.P11
open Go.RowKit Kd P4

theorem name_at (s : ByteArray) (w : World) {r : Bool} (h : P1.nameB s.data.toList = r) (hs : s.size ≤ maxLen) : Calls Try.prog 28 #[.string s] w fun e w' => e = .returned (.bool r) ∧ w = w' := by
  subst h; exact P1.may_any s w hs
theorem text_at (s : ByteArray) (w : World) {r : Bool} (h : P1.textB s.data.toList = r) (hs : s.size ≤ maxLen) : Calls Try.prog 30 #[.string s] w fun e w' => e = .returned (.bool r) ∧ w = w' := by
  subst h; exact P1.text_any s w hs
theorem void_at (s : ByteArray) (w : World) {r : Bool} (h : P1.voidB s.data.toList = r) : Calls Try.prog 29 #[.string s] w fun e w' => e = .returned (.bool r) ∧ w = w' := by
  subst h; exact P1.void_any s w
theorem tells_c : TellsC := by
  intro op w
  cases h1 : (op == 5) <;> cases h3 : (op == 6) <;>
    (have HM : Hid (tellsB op = _) := Lib.hid (by unfold tellsB; rw [h1, h3])
     go_enter Try.func21, Try.ntmps21
     go_wp2_with fail
     go_ret
     exact ⟨by rw [HM.out]; rfl, Below.refl _ _⟩)
set_option maxHeartbeats 4000000 in
theorem imay_c : IMayC := by
  intro i w ha hb
  obtain ⟨op, a, b⟩ := i
  have ha : a.size ≤ maxLen := Nat.le_trans ha (by unfold maxLen; omega)
  have hb : b.size ≤ maxLen := Nat.le_trans hb (by unfold maxLen; omega)
  have B1 : Hid (Below w.heap.size w (w.alloc (.cells #[.int .i64 op, .string a, .string b] 38))) := Lib.hid ((Below.refl _ _).alloc (Nat.le_refl _) _)
  have N1 : Hid (XB (w.alloc (.cells #[.int .i64 op, .string a, .string b] 38)) w.heap.size ⟨op, a, b⟩) := Lib.hid (XB.new w ⟨op, a, b⟩)
  obtain ⟨bn, hbn⟩ : ∃ x, P1.nameB a.data.toList = x := ⟨_, rfl⟩
  obtain ⟨bv, hbv⟩ : ∃ x, P1.voidB a.data.toList = x := ⟨_, rfl⟩
  obtain ⟨bx, hbx⟩ : ∃ x, P1.textB a.data.toList = x := ⟨_, rfl⟩
  obtain ⟨bz, hby⟩ : ∃ x, P1.textB b.data.toList = x := ⟨_, rfl⟩
  have HM : Hid (mayI ⟨op, a, b⟩ = if op = 1 then bn && !bv && bz else if op = 3 then bv && bz else if op = 4 then bx && b.toList.isEmpty else if op = 5 ∨ op = 6 then bn && bz else if op = 2 ∨ op = 7 ∨ op = 8 then a.toList.isEmpty && b.toList.isEmpty else false) := Lib.hid (by unfold mayI; simp only [hbn, hbv, hbx, hby])
  have HN : Hid (∀ w9, Calls Try.prog 28 #[.string a] w9 fun e w' => e = .returned (.bool bn) ∧ w9 = w') := Lib.hid (fun w9 => name_at a w9 hbn ha)
  have HV : Hid (∀ w9, Calls Try.prog 29 #[.string a] w9 fun e w' => e = .returned (.bool bv) ∧ w9 = w') := Lib.hid (fun w9 => void_at a w9 hbv)
  have HX : Hid (∀ w9, Calls Try.prog 30 #[.string a] w9 fun e w' => e = .returned (.bool bx) ∧ w9 = w') := Lib.hid (fun w9 => text_at a w9 hbx ha)
  have HY : Hid (∀ w9, Calls Try.prog 30 #[.string b] w9 fun e w' => e = .returned (.bool bz) ∧ w9 = w') := Lib.hid (fun w9 => text_at b w9 hby hb)
  clear hbn hbv hbx hby
  show Calls Try.prog 20 #[.agg #[.int .i64 op, .string a, .string b]] w _
  go_enter Try.func20, Try.ntmps20
  go_upto_region 1 with fail
  generalize w.alloc (.cells #[.int .i64 op, .string a, .string b] 38) = W at B1 N1 ⊢
  have c0 := N1.out.c0; have c1 := N1.out.c1; have c2 := N1.out.c2
  simp only at c0 c1 c2
  by_cases h1 : op = 1
  · subst h1
    have HM2 : Hid (mayI ⟨1, a, b⟩ = (bn && !bv && bz)) := Lib.hid (by rw [HM.out, if_pos rfl])
    clear HM
    cases bn
    · go_wp2_with fail; refine (HN.out _).mono ?_; rintro e w' ⟨rfl, rfl⟩; go_wp2_with fail; go_ret; exact ⟨by rw [HM2.out]; rfl, B1.out⟩
    cases bv
    · cases bz <;> (go_wp2_with fail; refine (HN.out _).mono ?_; rintro e w' ⟨rfl, rfl⟩; go_wp2_with fail; refine (HV.out _).mono ?_; rintro e w' ⟨rfl, rfl⟩; go_wp2_with fail; refine (HY.out _).mono ?_; rintro e w' ⟨rfl, rfl⟩; go_wp2_with fail; go_ret; exact ⟨by rw [HM2.out]; rfl, B1.out⟩)
    · go_wp2_with fail; refine (HN.out _).mono ?_; rintro e w' ⟨rfl, rfl⟩; go_wp2_with fail; refine (HV.out _).mono ?_; rintro e w' ⟨rfl, rfl⟩; go_wp2_with fail; go_ret; exact ⟨by rw [HM2.out]; rfl, B1.out⟩
  by_cases h3 : op = 3
  · subst h3
    have HM2 : Hid (mayI ⟨3, a, b⟩ = (bv && bz)) := Lib.hid (by rw [HM.out, if_neg (by decide), if_pos rfl])
    clear HM
    cases bv
    · go_wp2_with fail; refine (HV.out _).mono ?_; rintro e w' ⟨rfl, rfl⟩; go_wp2_with fail; go_ret; exact ⟨by rw [HM2.out]; rfl, B1.out⟩
    · cases bz <;> (go_wp2_with fail; refine (HV.out _).mono ?_; rintro e w' ⟨rfl, rfl⟩; go_wp2_with fail; refine (HY.out _).mono ?_; rintro e w' ⟨rfl, rfl⟩; go_wp2_with fail; go_ret; exact ⟨by rw [HM2.out]; rfl, B1.out⟩)
  by_cases h4 : op = 4
  · subst h4
    have HM2 : Hid (mayI ⟨4, a, b⟩ = (bx && b.toList.isEmpty)) := Lib.hid (by rw [HM.out, if_neg (by decide), if_neg (by decide), if_pos rfl])
    clear HM
    cases bE : b.toList.isEmpty <;> rw [bE] at HM2 <;> cases bx <;>
      (go_wp2_with fail; refine (HX.out _).mono ?_; rintro e w' ⟨rfl, rfl⟩; go_wp2_with fail; go_ret; exact ⟨by rw [HM2.out]; rfl, B1.out⟩)
  by_cases h5 : op = 5
  · subst h5
    have HM2 : Hid (mayI ⟨5, a, b⟩ = (bn && bz)) := Lib.hid (by rw [HM.out, if_neg (by decide), if_neg (by decide), if_neg (by decide), if_pos (by decide)])
    clear HM
    cases bn
    · go_wp2_with fail; refine (HN.out _).mono ?_; rintro e w' ⟨rfl, rfl⟩; go_wp2_with fail; go_ret; exact ⟨by rw [HM2.out]; rfl, B1.out⟩
    · cases bz <;> (go_wp2_with fail; refine (HN.out _).mono ?_; rintro e w' ⟨rfl, rfl⟩; go_wp2_with fail; refine (HY.out _).mono ?_; rintro e w' ⟨rfl, rfl⟩; go_wp2_with fail; go_ret; exact ⟨by rw [HM2.out]; rfl, B1.out⟩)
  by_cases h6 : op = 6
  · subst h6
    have HM2 : Hid (mayI ⟨6, a, b⟩ = (bn && bz)) := Lib.hid (by rw [HM.out, if_neg (by decide), if_neg (by decide), if_neg (by decide), if_pos (by decide)])
    clear HM
    cases bn
    · go_wp2_with fail; refine (HN.out _).mono ?_; rintro e w' ⟨rfl, rfl⟩; go_wp2_with fail; go_ret; exact ⟨by rw [HM2.out]; rfl, B1.out⟩
    · cases bz <;> (go_wp2_with fail; refine (HN.out _).mono ?_; rintro e w' ⟨rfl, rfl⟩; go_wp2_with fail; refine (HY.out _).mono ?_; rintro e w' ⟨rfl, rfl⟩; go_wp2_with fail; go_ret; exact ⟨by rw [HM2.out]; rfl, B1.out⟩)
  by_cases h2 : op = 2
  · subst h2
    have HM2 : Hid (mayI ⟨2, a, b⟩ = (a.toList.isEmpty && b.toList.isEmpty)) := Lib.hid (by rw [HM.out, if_neg (by decide), if_neg (by decide), if_neg (by decide), if_neg (by decide), if_pos (by decide)])
    clear HM HN HV HX HY
    cases aE : a.toList.isEmpty <;> cases bE : b.toList.isEmpty <;> rw [aE, bE] at HM2 <;> (go_wp2_with fail; go_ret; exact ⟨by rw [HM2.out]; rfl, B1.out⟩)
  by_cases h7 : op = 7
  · subst h7
    have HM2 : Hid (mayI ⟨7, a, b⟩ = (a.toList.isEmpty && b.toList.isEmpty)) := Lib.hid (by rw [HM.out, if_neg (by decide), if_neg (by decide), if_neg (by decide), if_neg (by decide), if_pos (by decide)])
    clear HM HN HV HX HY
    cases aE : a.toList.isEmpty <;> cases bE : b.toList.isEmpty <;> rw [aE, bE] at HM2 <;> (go_wp2_with fail; go_ret; exact ⟨by rw [HM2.out]; rfl, B1.out⟩)
  by_cases h8 : op = 8
  · subst h8
    have HM2 : Hid (mayI ⟨8, a, b⟩ = (a.toList.isEmpty && b.toList.isEmpty)) := Lib.hid (by rw [HM.out, if_neg (by decide), if_neg (by decide), if_neg (by decide), if_neg (by decide), if_pos (by decide)])
    clear HM HN HV HX HY
    cases aE : a.toList.isEmpty <;> cases bE : b.toList.isEmpty <;> rw [aE, bE] at HM2 <;> (go_wp2_with fail; go_ret; exact ⟨by rw [HM2.out]; rfl, B1.out⟩)
  have HM2 : Hid (mayI ⟨op, a, b⟩ = false) := Lib.hid (by rw [HM.out]; simp [h1, h2, h3, h4, h5, h6, h7, h8])
  have q1 := int_ne h1; have q2 := int_ne h2; have q3 := int_ne h3; have q4 := int_ne h4; have q5 := int_ne h5; have q6 := int_ne h6; have q7 := int_ne h7; have q8 := int_ne h8
  clear HM HN HV HX HY
  go_wp2_with fail
  go_ret
  exact ⟨by rw [HM2.out]; rfl, B1.out⟩
end Go.Proofs.Ytfjnbjpenibpkaa.P11
