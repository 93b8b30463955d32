/- What the program's wish.get answers of what is no element; of an element. No condition but those stated. -/
import Derived.Deep.DeepCutAuto
import Derived.Test.YtfjnbjpenibpkaaM32
set_option linter.unusedVariables false
set_option linter.unusedSimpArgs false
set_option linter.unusedVariables false
set_option linter.unusedSimpArgs false
namespace Go.Proofs.Ytfjnbjpenibpkaa.P14
open Go.RowKit Kd P4 P5 P11 P12 P13
attribute [local go_sem ↓] Go.wp_at_zero Go.wp_at_succ

/-! ### What stands at the front -/
def litP (kind : Int) (txt : ByteArray) : WV := .mk kind ⟨#[]⟩ ⟨#[]⟩ txt ⟨none, 0, 0⟩ [] ⟨none, 0, 0⟩ []
theorem litP_new (w : World) (k : Int) (t : ByteArray) (Q : Nat → Prop) : WNew kW w Q (litP k t) := WNew.mk (sk := ⟨none, 0, 0⟩) (AOk.nil_ w) (Kind.Own.nil kW w 0) (fun b hb => by cases hb) (fun k hk => by cases hk)
theorem litP_er (k : Int) (t : ByteArray) : er (litP k t) = .mk k z0 z0 t [] [] := by rw [litP, er, erL]; rfl
theorem keep6 {w : World} {g b o : Nat} {u u0 u1 u2 u3 u4 u5 : Value} (h : b ≠ g) (hc : w.cell? ⟨b, o, none⟩ = some u) : ((((((w.setCell ⟨g, 0, none⟩ u0).setCell ⟨g, 1, none⟩ u1).setCell ⟨g, 2, none⟩ u2).setCell ⟨g, 3, none⟩ u3).setCell ⟨g, 4, none⟩ u4).setCell ⟨g, 5, none⟩ u5).cell? ⟨b, o, none⟩ = some u := by
  refine (World.cell?_of_block ?_).trans hc
  have k : ∀ (w : World) (i : Nat) (u : Value), (w.setCell ⟨g, i, none⟩ u).heap[b]? = w.heap[b]? := fun w i u => Below.heap_setCell w _ u b h
  rw [k, k, k, k, k, k]
theorem drew_cell (w : World) (a : Addr) : w.drew.cell? a = w.cell? a := rfl
theorem keep6d {w : World} {g b o : Nat} {u u0 u1 u2 u3 u4 u5 : Value} (h : b ≠ g) (hc : w.cell? ⟨b, o, none⟩ = some u) : ((((((w.setCell ⟨g, 0, none⟩ u0).setCell ⟨g, 1, none⟩ u1).setCell ⟨g, 2, none⟩ u2).setCell ⟨g, 3, none⟩ u3).setCell ⟨g, 4, none⟩ u4).setCell ⟨g, 5, none⟩ u5).drew.cell? ⟨b, o, none⟩ = some u := (drew_cell _ _).trans (keep6 h hc)
set_option maxRecDepth 100000 in
set_option maxHeartbeats 16000000 in
theorem getSmall_any (op kind : Int) (a b2 txt : ByteArray) (rest : List In) (A : Option Addr) (n c C : Nat) (w : World) (hk : (op = 4 ∧ kind = 2 ∧ txt = a) ∨ (op = 8 ∧ kind = 3 ∧ txt = ⟨#[]⟩) ∨ (op = 7 ∧ kind = 4 ∧ txt = ⟨#[]⟩)) (h : Rs w C A n c (⟨op, a, b2⟩ :: rest)) (hC : C ≤ w.heap.size) :
    Calls Try.prog 19 #[.slice A n c] w (GotV w C (.mk kind z0 z0 txt [] []) rest) := by
  obtain ⟨b, o, rfl, hb, g0', g1', g2', hl, h0, hR1, hR2⟩ := h.cons
  have HR1 := Lib.hid hR1
  have HR2 := Lib.hid hR2
  have hcap := h.cap
  have hcm := h.cm
  have hbw : b < w.heap.size := Nat.lt_of_lt_of_le hb hC
  have hbn : b ≠ w.heap.size := by omega
  have i1 : (1 : Int) ≤ (n : Int) := by omega
  have i2 : (n : Int) ≤ (c : Int) := by omega
  have hcm' : c ≤ 9223372036854775807 := by unfold maxLen at hcm; omega
  clear h hR1 hR2 hl g2'
  simp only at g0' g1'
  rcases hk with ⟨rfl, rfl, rfl⟩ | ⟨rfl, rfl, rfl⟩ | ⟨rfl, rfl, rfl⟩
  · by_cases hcap1 : c = 1
    · have HR := Lib.hid (HR1.out hcap1)
      subst hcap1
      obtain rfl : n = 1 := by omega
      clear HR1 HR2
      go_enter Try.func19, Try.ntmps19
      go_upto_region 1 with fail
      have Z0 : Hid (WB (w.alloc (.cells #[.int .i64 0, .string ⟨#[]⟩, .string ⟨#[]⟩, .string ⟨#[]⟩, .slice none 0 0, .slice none 0 0] 46)) w.heap.size zWV) := Lib.hid (WB.new w zWV)
      have B0 : Hid (Below w.heap.size w (w.alloc (.cells #[.int .i64 0, .string ⟨#[]⟩, .string ⟨#[]⟩, .string ⟨#[]⟩, .slice none 0 0, .slice none 0 0] 46))) := Lib.hid ((Below.refl _ _).alloc (Nat.le_refl _) _)
      generalize w.alloc (.cells #[.int .i64 0, .string ⟨#[]⟩, .string ⟨#[]⟩, .string ⟨#[]⟩, .slice none 0 0, .slice none 0 0] 46) = wa at Z0 B0 ⊢
      have g0 := (B0.out.cell (p := ⟨b, o, none⟩) hbw).trans g0'
      have g1 := (B0.out.cell (p := ⟨b, o + 1, none⟩) hbw).trans g1'
      have z0 := Z0.out.c0; have z1 := Z0.out.c1; have z2 := Z0.out.c2; have z3 := Z0.out.c3; have z4 := Z0.out.c4; have z5 := Z0.out.c5
      simp only [WV.kind, WV.tag, WV.key, WV.txt, WV.sa, WV.sk, zWV] at z0 z1 z2 z3 z4 z5
      have zf := Z0.out.fr
      have hzl : w.heap.size < wa.heap.size := Z0.out.lt
      clear g0' g1'
      go_upto_region 3 with fail
      have KD : ((((((wa.setCell ⟨w.heap.size, 0, none⟩ (.int .i64 2)).setCell ⟨w.heap.size, 1, none⟩ (.string ⟨#[]⟩)).setCell ⟨w.heap.size, 2, none⟩ (.string ⟨#[]⟩)).setCell ⟨w.heap.size, 3, none⟩ (.string txt)).setCell ⟨w.heap.size, 4, none⟩ (.slice none 0 0)).setCell ⟨w.heap.size, 5, none⟩ (.slice none 0 0)).drew.cell? ⟨b, o + 1, none⟩ = some (.string txt) := keep6d hbn g1
      go_region_held3 (fun w' => w'.cell? ⟨b, o + 1, none⟩ = some (.string txt)) (go_keep) (fail)
      all_goals (go_wp2_with fail)
      all_goals (refine bodyPost_ret (v := .tuple #[.agg #[.int .i64 2, .string ⟨#[]⟩, .string ⟨#[]⟩, .string txt, .slice none 0 0, .slice none 0 0], .slice (some ⟨b, o, none⟩) (0) (0)]) (by simp [results, Try.results19, go_sem, z0, z1, z2, z3, z4, z5, hzl]) rfl ⟨litP 2 txt, _, _, _, rfl, litP_er _ _, litP_new _ _ _ _, HR.out, ?_⟩)
      all_goals exact one_end B0.out (But.drew (setOne (setOne (setOne (setOne (setOne (setOne (But.refl _ _))))))))
    · have HR := Lib.hid (HR2.out hcap1)
      have hcq : ¬ c - 1 = 0 := by omega
      clear HR1 HR2
      go_enter Try.func19, Try.ntmps19
      go_upto_region 1 with fail
      have Z0 : Hid (WB (w.alloc (.cells #[.int .i64 0, .string ⟨#[]⟩, .string ⟨#[]⟩, .string ⟨#[]⟩, .slice none 0 0, .slice none 0 0] 46)) w.heap.size zWV) := Lib.hid (WB.new w zWV)
      have B0 : Hid (Below w.heap.size w (w.alloc (.cells #[.int .i64 0, .string ⟨#[]⟩, .string ⟨#[]⟩, .string ⟨#[]⟩, .slice none 0 0, .slice none 0 0] 46))) := Lib.hid ((Below.refl _ _).alloc (Nat.le_refl _) _)
      generalize w.alloc (.cells #[.int .i64 0, .string ⟨#[]⟩, .string ⟨#[]⟩, .string ⟨#[]⟩, .slice none 0 0, .slice none 0 0] 46) = wa at Z0 B0 ⊢
      have g0 := (B0.out.cell (p := ⟨b, o, none⟩) hbw).trans g0'
      have g1 := (B0.out.cell (p := ⟨b, o + 1, none⟩) hbw).trans g1'
      have z0 := Z0.out.c0; have z1 := Z0.out.c1; have z2 := Z0.out.c2; have z3 := Z0.out.c3; have z4 := Z0.out.c4; have z5 := Z0.out.c5
      simp only [WV.kind, WV.tag, WV.key, WV.txt, WV.sa, WV.sk, zWV] at z0 z1 z2 z3 z4 z5
      have zf := Z0.out.fr
      have hzl : w.heap.size < wa.heap.size := Z0.out.lt
      clear g0' g1'
      go_upto_region 3 with fail
      have KD : ((((((wa.setCell ⟨w.heap.size, 0, none⟩ (.int .i64 2)).setCell ⟨w.heap.size, 1, none⟩ (.string ⟨#[]⟩)).setCell ⟨w.heap.size, 2, none⟩ (.string ⟨#[]⟩)).setCell ⟨w.heap.size, 3, none⟩ (.string txt)).setCell ⟨w.heap.size, 4, none⟩ (.slice none 0 0)).setCell ⟨w.heap.size, 5, none⟩ (.slice none 0 0)).drew.cell? ⟨b, o + 1, none⟩ = some (.string txt) := keep6d hbn g1
      go_region_held3 (fun w' => w'.cell? ⟨b, o + 1, none⟩ = some (.string txt)) (go_keep) (fail)
      all_goals (go_wp2_with fail)
      all_goals (refine bodyPost_ret (v := .tuple #[.agg #[.int .i64 2, .string ⟨#[]⟩, .string ⟨#[]⟩, .string txt, .slice none 0 0, .slice none 0 0], .slice (some ⟨b, o + 3, none⟩) (n - 1) (c - 1)]) (by simp [results, Try.results19, go_sem, z0, z1, z2, z3, z4, z5, hzl]) rfl ⟨litP 2 txt, _, _, _, rfl, litP_er _ _, litP_new _ _ _ _, HR.out, ?_⟩)
      all_goals exact one_end B0.out (But.drew (setOne (setOne (setOne (setOne (setOne (setOne (But.refl _ _))))))))
  · by_cases hcap1 : c = 1
    · have HR := Lib.hid (HR1.out hcap1)
      subst hcap1
      obtain rfl : n = 1 := by omega
      clear HR1 HR2
      go_enter Try.func19, Try.ntmps19
      go_upto_region 1 with fail
      have Z0 : Hid (WB (w.alloc (.cells #[.int .i64 0, .string ⟨#[]⟩, .string ⟨#[]⟩, .string ⟨#[]⟩, .slice none 0 0, .slice none 0 0] 46)) w.heap.size zWV) := Lib.hid (WB.new w zWV)
      have B0 : Hid (Below w.heap.size w (w.alloc (.cells #[.int .i64 0, .string ⟨#[]⟩, .string ⟨#[]⟩, .string ⟨#[]⟩, .slice none 0 0, .slice none 0 0] 46))) := Lib.hid ((Below.refl _ _).alloc (Nat.le_refl _) _)
      generalize w.alloc (.cells #[.int .i64 0, .string ⟨#[]⟩, .string ⟨#[]⟩, .string ⟨#[]⟩, .slice none 0 0, .slice none 0 0] 46) = wa at Z0 B0 ⊢
      have g0 := (B0.out.cell (p := ⟨b, o, none⟩) hbw).trans g0'
      have g1 := (B0.out.cell (p := ⟨b, o + 1, none⟩) hbw).trans g1'
      have z0 := Z0.out.c0; have z1 := Z0.out.c1; have z2 := Z0.out.c2; have z3 := Z0.out.c3; have z4 := Z0.out.c4; have z5 := Z0.out.c5
      simp only [WV.kind, WV.tag, WV.key, WV.txt, WV.sa, WV.sk, zWV] at z0 z1 z2 z3 z4 z5
      have zf := Z0.out.fr
      have hzl : w.heap.size < wa.heap.size := Z0.out.lt
      clear g0' g1'
      go_upto_region 5 with fail
      go_region_held3 (fun _ => True) (trivial) (fail)
      all_goals (go_wp2_with fail)
      all_goals (refine bodyPost_ret (v := .tuple #[.agg #[.int .i64 3, .string ⟨#[]⟩, .string ⟨#[]⟩, .string ⟨#[]⟩, .slice none 0 0, .slice none 0 0], .slice (some ⟨b, o, none⟩) (0) (0)]) (by simp [results, Try.results19, go_sem, z0, z1, z2, z3, z4, z5, hzl]) rfl ⟨litP 3 ⟨#[]⟩, _, _, _, rfl, litP_er _ _, litP_new _ _ _ _, HR.out, ?_⟩)
      all_goals exact one_end B0.out (But.drew (setOne (setOne (setOne (setOne (setOne (setOne (But.refl _ _))))))))
    · have HR := Lib.hid (HR2.out hcap1)
      have hcq : ¬ c - 1 = 0 := by omega
      clear HR1 HR2
      go_enter Try.func19, Try.ntmps19
      go_upto_region 1 with fail
      have Z0 : Hid (WB (w.alloc (.cells #[.int .i64 0, .string ⟨#[]⟩, .string ⟨#[]⟩, .string ⟨#[]⟩, .slice none 0 0, .slice none 0 0] 46)) w.heap.size zWV) := Lib.hid (WB.new w zWV)
      have B0 : Hid (Below w.heap.size w (w.alloc (.cells #[.int .i64 0, .string ⟨#[]⟩, .string ⟨#[]⟩, .string ⟨#[]⟩, .slice none 0 0, .slice none 0 0] 46))) := Lib.hid ((Below.refl _ _).alloc (Nat.le_refl _) _)
      generalize w.alloc (.cells #[.int .i64 0, .string ⟨#[]⟩, .string ⟨#[]⟩, .string ⟨#[]⟩, .slice none 0 0, .slice none 0 0] 46) = wa at Z0 B0 ⊢
      have g0 := (B0.out.cell (p := ⟨b, o, none⟩) hbw).trans g0'
      have g1 := (B0.out.cell (p := ⟨b, o + 1, none⟩) hbw).trans g1'
      have z0 := Z0.out.c0; have z1 := Z0.out.c1; have z2 := Z0.out.c2; have z3 := Z0.out.c3; have z4 := Z0.out.c4; have z5 := Z0.out.c5
      simp only [WV.kind, WV.tag, WV.key, WV.txt, WV.sa, WV.sk, zWV] at z0 z1 z2 z3 z4 z5
      have zf := Z0.out.fr
      have hzl : w.heap.size < wa.heap.size := Z0.out.lt
      clear g0' g1'
      go_upto_region 5 with fail
      go_region_held3 (fun _ => True) (trivial) (fail)
      all_goals (go_wp2_with fail)
      all_goals (refine bodyPost_ret (v := .tuple #[.agg #[.int .i64 3, .string ⟨#[]⟩, .string ⟨#[]⟩, .string ⟨#[]⟩, .slice none 0 0, .slice none 0 0], .slice (some ⟨b, o + 3, none⟩) (n - 1) (c - 1)]) (by simp [results, Try.results19, go_sem, z0, z1, z2, z3, z4, z5, hzl]) rfl ⟨litP 3 ⟨#[]⟩, _, _, _, rfl, litP_er _ _, litP_new _ _ _ _, HR.out, ?_⟩)
      all_goals exact one_end B0.out (But.drew (setOne (setOne (setOne (setOne (setOne (setOne (But.refl _ _))))))))
  · by_cases hcap1 : c = 1
    · have HR := Lib.hid (HR1.out hcap1)
      subst hcap1
      obtain rfl : n = 1 := by omega
      clear HR1 HR2
      go_enter Try.func19, Try.ntmps19
      go_upto_region 1 with fail
      have Z0 : Hid (WB (w.alloc (.cells #[.int .i64 0, .string ⟨#[]⟩, .string ⟨#[]⟩, .string ⟨#[]⟩, .slice none 0 0, .slice none 0 0] 46)) w.heap.size zWV) := Lib.hid (WB.new w zWV)
      have B0 : Hid (Below w.heap.size w (w.alloc (.cells #[.int .i64 0, .string ⟨#[]⟩, .string ⟨#[]⟩, .string ⟨#[]⟩, .slice none 0 0, .slice none 0 0] 46))) := Lib.hid ((Below.refl _ _).alloc (Nat.le_refl _) _)
      generalize w.alloc (.cells #[.int .i64 0, .string ⟨#[]⟩, .string ⟨#[]⟩, .string ⟨#[]⟩, .slice none 0 0, .slice none 0 0] 46) = wa at Z0 B0 ⊢
      have g0 := (B0.out.cell (p := ⟨b, o, none⟩) hbw).trans g0'
      have g1 := (B0.out.cell (p := ⟨b, o + 1, none⟩) hbw).trans g1'
      have z0 := Z0.out.c0; have z1 := Z0.out.c1; have z2 := Z0.out.c2; have z3 := Z0.out.c3; have z4 := Z0.out.c4; have z5 := Z0.out.c5
      simp only [WV.kind, WV.tag, WV.key, WV.txt, WV.sa, WV.sk, zWV] at z0 z1 z2 z3 z4 z5
      have zf := Z0.out.fr
      have hzl : w.heap.size < wa.heap.size := Z0.out.lt
      clear g0' g1'
      go_upto_region 7 with fail
      go_region_held3 (fun _ => True) (trivial) (fail)
      all_goals (go_wp2_with fail)
      all_goals (refine bodyPost_ret (v := .tuple #[.agg #[.int .i64 4, .string ⟨#[]⟩, .string ⟨#[]⟩, .string ⟨#[]⟩, .slice none 0 0, .slice none 0 0], .slice (some ⟨b, o, none⟩) (0) (0)]) (by simp [results, Try.results19, go_sem, z0, z1, z2, z3, z4, z5, hzl]) rfl ⟨litP 4 ⟨#[]⟩, _, _, _, rfl, litP_er _ _, litP_new _ _ _ _, HR.out, ?_⟩)
      all_goals exact one_end B0.out (But.drew (setOne (setOne (setOne (setOne (setOne (setOne (But.refl _ _))))))))
    · have HR := Lib.hid (HR2.out hcap1)
      have hcq : ¬ c - 1 = 0 := by omega
      clear HR1 HR2
      go_enter Try.func19, Try.ntmps19
      go_upto_region 1 with fail
      have Z0 : Hid (WB (w.alloc (.cells #[.int .i64 0, .string ⟨#[]⟩, .string ⟨#[]⟩, .string ⟨#[]⟩, .slice none 0 0, .slice none 0 0] 46)) w.heap.size zWV) := Lib.hid (WB.new w zWV)
      have B0 : Hid (Below w.heap.size w (w.alloc (.cells #[.int .i64 0, .string ⟨#[]⟩, .string ⟨#[]⟩, .string ⟨#[]⟩, .slice none 0 0, .slice none 0 0] 46))) := Lib.hid ((Below.refl _ _).alloc (Nat.le_refl _) _)
      generalize w.alloc (.cells #[.int .i64 0, .string ⟨#[]⟩, .string ⟨#[]⟩, .string ⟨#[]⟩, .slice none 0 0, .slice none 0 0] 46) = wa at Z0 B0 ⊢
      have g0 := (B0.out.cell (p := ⟨b, o, none⟩) hbw).trans g0'
      have g1 := (B0.out.cell (p := ⟨b, o + 1, none⟩) hbw).trans g1'
      have z0 := Z0.out.c0; have z1 := Z0.out.c1; have z2 := Z0.out.c2; have z3 := Z0.out.c3; have z4 := Z0.out.c4; have z5 := Z0.out.c5
      simp only [WV.kind, WV.tag, WV.key, WV.txt, WV.sa, WV.sk, zWV] at z0 z1 z2 z3 z4 z5
      have zf := Z0.out.fr
      have hzl : w.heap.size < wa.heap.size := Z0.out.lt
      clear g0' g1'
      go_upto_region 7 with fail
      go_region_held3 (fun _ => True) (trivial) (fail)
      all_goals (go_wp2_with fail)
      all_goals (refine bodyPost_ret (v := .tuple #[.agg #[.int .i64 4, .string ⟨#[]⟩, .string ⟨#[]⟩, .string ⟨#[]⟩, .slice none 0 0, .slice none 0 0], .slice (some ⟨b, o + 3, none⟩) (n - 1) (c - 1)]) (by simp [results, Try.results19, go_sem, z0, z1, z2, z3, z4, z5, hzl]) rfl ⟨litP 4 ⟨#[]⟩, _, _, _, rfl, litP_er _ _, litP_new _ _ _ _, HR.out, ?_⟩)
      all_goals exact one_end B0.out (But.drew (setOne (setOne (setOne (setOne (setOne (setOne (But.refl _ _))))))))
end Go.Proofs.Ytfjnbjpenibpkaa.P14
