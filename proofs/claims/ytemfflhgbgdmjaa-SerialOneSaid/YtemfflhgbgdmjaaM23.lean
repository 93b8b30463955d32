/- Layer 9's example, and the walks of both laws: each answers true. No condition. -/
import Derived.Deep.RegionHeld3
import Derived.Deep.RegionWith
import Derived.Test.YtemfflhgbgdmjaaM21
import Derived.Test.YtemfflhgbgdmjaaM22
set_option linter.unusedVariables false
set_option linter.unusedSimpArgs false
namespace Go.Proofs.Ytemfflhgbgdmjaa.P9
open Go.RowKit Kd P4 P5 P8

/-! ### The example -/
def txt3 : TV := .mk ⟨#[]⟩ ⟨#[97, 60, 98]⟩ ⟨#[]⟩ ⟨none, 0, 0⟩ [] ⟨none, 0, 0⟩ []
def upT9 (s : Nat) : TV := .mk ⟨#[112]⟩ ⟨#[]⟩ ⟨#[]⟩ ⟨none, 0, 0⟩ [] ⟨some ⟨s, 0, none⟩, 1, 1⟩ [txt3]
def brT9 : TV := .mk ⟨#[98, 114]⟩ ⟨#[]⟩ ⟨#[]⟩ ⟨none, 0, 0⟩ [] ⟨none, 0, 0⟩ []
theorem txt3_ok (w : World) (C : Nat) : TOk w C txt3 := ⟨rfl, Nat.le_refl _, fun _ => rfl, Kind.Holds.nil _ _ _, rfl, Nat.le_refl _, fun _ => rfl, Kind.Holds.nil _ _ _, fun k hk => by cases hk⟩
theorem brT9_ok (w : World) (C : Nat) : TOk w C brT9 := ⟨rfl, Nat.le_refl _, fun _ => rfl, Kind.Holds.nil _ _ _, rfl, Nat.le_refl _, fun _ => rfl, Kind.Holds.nil _ _ _, fun k hk => by cases hk⟩
theorem upT9_ok {w : World} {s : Nat} (h : w.heap[s]? = some (.cells #[.string ⟨#[]⟩, .string ⟨#[97, 60, 98]⟩, .string ⟨#[]⟩, .slice none 0 0, .slice none 0 0] 25 (0, 0))) : TOk w w.heap.size (upT9 s) :=
  ⟨rfl, Nat.le_refl _, fun _ => rfl, Kind.Holds.nil _ _ _, rfl, Nat.le_refl _, (fun e => by cases e), (Kind.Holds.lit h rfl).more (heap_lt h), fun k hk => by rw [List.mem_singleton.1 hk]; exact txt3_ok _ _⟩
theorem b0 : (⟨#[]⟩ : ByteArray).toList = [] := by rw [ByteArray.toList_eq]
theorem b112 : (⟨#[112]⟩ : ByteArray).toList = [112] := by rw [ByteArray.toList_eq]
theorem bbr : (⟨#[98, 114]⟩ : ByteArray).toList = [98, 114] := by rw [ByteArray.toList_eq]
theorem upT9_html (s : Nat) : htmlB (er (upT9 s)) = ⟨#[60, 112, 62, 97, 38, 108, 116, 59, 98, 60, 47, 112, 62]⟩ := by
  simp only [upT9, txt3, er, erL, htmlB, putH, allH, b0, b112]
  decide
theorem brT9_html : htmlB (er brT9) = ⟨#[60, 98, 114, 62]⟩ := by
  simp only [brT9, er, erL, htmlB, putH, allH, bbr]
  decide
theorem upT9_few (s : Nat) : fewP (er (upT9 s)) = true ∧ countP (er (upT9 s)) = 2 := by
  simp only [upT9, txt3, er, erL, fewP, fewL, countP, countL]
  decide
theorem brT9_few : fewP (er brT9) = true ∧ countP (er brT9) = 1 := by
  simp only [brT9, er, erL, fewP, fewL, countP, countL]
  decide
theorem put_up {w : World} {s : Nat} (h : w.heap[s]? = some (.cells #[.string ⟨#[]⟩, .string ⟨#[97, 60, 98]⟩, .string ⟨#[]⟩, .slice none 0 0, .slice none 0 0] 25 (0, 0))) :
    Calls Try.prog 8 #[.agg #[.string ⟨#[112]⟩, .string ⟨#[]⟩, .string ⟨#[]⟩, .slice none 0 0, .slice (some ⟨s, 0, none⟩) 1 1]] w fun e w' => e = .returned (.string ⟨#[60, 112, 62, 97, 38, 108, 116, 59, 98, 60, 47, 112, 62]⟩) ∧ Below w.heap.size w w' := by
  have := sput_any (upT9 s) w (upT9_ok h) (upT9_few s).1 (by rw [(upT9_few s).2]; omega)
  rw [upT9_html] at this
  exact this
theorem put_br (w : World) :
    Calls Try.prog 8 #[.agg #[.string ⟨#[98, 114]⟩, .string ⟨#[]⟩, .string ⟨#[]⟩, .slice none 0 0, .slice none 0 0]] w fun e w' => e = .returned (.string ⟨#[60, 98, 114, 62]⟩) ∧ Below w.heap.size w w' := by
  have := sput_any brT9 w (brT9_ok _ _) brT9_few.1 (by rw [brT9_few.2]; omega)
  rw [brT9_html] at this
  exact this
theorem all_nil (w : World) : Calls Try.prog 10 #[.slice none 0 0] w fun e w' => e = .returned (.string ⟨#[]⟩) ∧ Below w.heap.size w w' := by
  have := sall_any [] none 0 0 w (Kind.Holds.nil _ _ _) rfl (fun t ht => by cases ht) (by simp [erL, fewL]) (by simp [erL, countL])
  exact this
set_option maxHeartbeats 2000000 in
theorem up9_any (w : World) : Calls Try.prog 5 #[] w fun e w' => e = .returned (.bool true) ∧ Below w.heap.size w w' := by
  go_enter Try.func5, Try.ntmps5
  go_wp2_with fail
  refine (put_up (heap_alloc_new _ _)).mono ?_
  rintro e w1 ⟨rfl, b1⟩
  have B1 : Hid (Below w.heap.size w w1) := Lib.hid (bl_call b1 (bl_alloc (Below.refl _ _) _))
  clear b1
  go_wp2_with fail
  refine (put_br _).mono ?_
  rintro e w2 ⟨rfl, b2⟩
  have B2 : Hid (Below w.heap.size w w2) := Lib.hid (bl_call b2 B1.out)
  clear b2
  go_wp2_with fail
  refine (all_nil _).mono ?_
  rintro e w3 ⟨rfl, b3⟩
  have B3 : Hid (Below w.heap.size w w3) := Lib.hid (bl_call b3 B2.out)
  clear b3
  go_wp2_with fail
  go_ret
  exact ⟨rfl, B3.out⟩

/-! ### SerialTells -/
set_option maxRecDepth 100000 in
set_option maxHeartbeats 20000000 in
theorem tells9_any (t : TV) (ts : List TV) (A : Option Addr) (n c : Nat) (w : World) (ht : TOk w w.heap.size t) (ft : TFit t) (hh : kT.Holds w w.heap.size A ts) (hn : ts.length = n) (hnc : n ≤ c) (hc : c ≤ maxLen) (hok : ∀ t ∈ ts, TOk w w.heap.size t) (hfit : ∀ t ∈ ts, TFit t) :
    Calls Try.prog 3 #[.agg #[.string t.tag, .string t.txt, .string t.key, .slice t.sa.A t.sa.n t.sa.c, .slice t.sk.A t.sk.n t.sk.c], .slice A n c] w fun e w' => e = .returned (.bool true) ∧ Below w.heap.size w w' := by
  have B1 : Hid (Below w.heap.size w (w.alloc (.cells #[.string t.tag, .string t.txt, .string t.key, .slice t.sa.A t.sa.n t.sa.c, .slice t.sk.A t.sk.n t.sk.c] 25))) := Lib.hid ((Below.refl _ _).alloc (Nat.le_refl _) _)
  have N1 : Hid (TB (w.alloc (.cells #[.string t.tag, .string t.txt, .string t.key, .slice t.sa.A t.sa.n t.sa.c, .slice t.sk.A t.sk.n t.sk.c] 25)) w.heap.size t) := Lib.hid (TB.new w t)
  have HT : Hid (∀ w9, Below w.heap.size w w9 → TOk w9 w9.heap.size t) := Lib.hid (fun w9 h => ht.on h)
  have HH : Hid (∀ w9, Below w.heap.size w w9 → kT.Holds w9 w9.heap.size A ts) := Lib.hid (fun w9 h => hh.on h)
  have HO : Hid (∀ w9, Below w.heap.size w w9 → ∀ t ∈ ts, TOk w9 w9.heap.size t) := Lib.hid (fun w9 h t hm => (hok t hm).on h)
  have HN := Lib.hid hn
  have HC := Lib.hid hc
  have HF := Lib.hid hfit
  clear ht hh hn hok hfit hc
  go_enter Try.func3, Try.ntmps3
  go_upto_region 1 with fail
  generalize (w.alloc (.cells #[.string t.tag, .string t.txt, .string t.key, .slice t.sa.A t.sa.n t.sa.c, .slice t.sk.A t.sk.n t.sk.c] 25)) = W0 at B1 N1 ⊢
  go_wp2_with fail
  refine (up9_any W0).mono ?_
  rintro e w1 ⟨rfl, b⟩
  have B2 := Lib.hid (bl_call b B1.out)
  have N2 := Lib.hid (N1.out.below b N1.out.lt)
  clear b B1 N1
  have a0 := N2.out.c0; have a1 := N2.out.c1; have a2 := N2.out.c2; have a3 := N2.out.c3; have a4 := N2.out.c4
  go_wp2_with fail
  refine (many_any t 60 w1 (by omega) (HT.out w1 B2.out) ft).mono ?_
  rintro e w2 ⟨m, rfl, hm1, hm2, hm3, b⟩
  have B3 := Lib.hid (bl_call b B2.out)
  have N3 := Lib.hid (N2.out.below b N2.out.lt)
  clear b B2 N2 a0 a1 a2 a3 a4
  by_cases hm : 60 < m
  · have q1 : decide ((60 : Int) < (m : Int)) = true := by simp; omega
    go_wp2_with fail
    go_ret
    exact ⟨rfl, B3.out⟩
  have q1 : decide ((60 : Int) < (m : Int)) = false := by simp; omega
  obtain ⟨hmc, hmf⟩ := hm3 (by omega)
  go_wp2_with fail
  refine (manyAll_any ts 60 w2 A n c (by omega) (HH.out w2 B3.out) HN.out hnc HC.out (HO.out w2 B3.out) HF.out).mono ?_
  rintro e w3 ⟨m', rfl, hm2', hm3', b⟩
  have B4 := Lib.hid (bl_call b B3.out)
  have N4 := Lib.hid (N3.out.below b N3.out.lt)
  clear b B3 N3
  by_cases hm' : 60 < m'
  · have q2 : decide ((60 : Int) < (m' : Int)) = true := by simp; omega
    go_wp2_with fail
    go_ret
    exact ⟨rfl, B4.out⟩
  have q2 : decide ((60 : Int) < (m' : Int)) = false := by simp; omega
  obtain ⟨hmc', hmf'⟩ := hm3' (by omega)
  have hc1 : countP (er t) ≤ 1000 := by omega
  have hc2 : countL (erL ts) ≤ 1000 := by omega
  obtain ⟨W, rfl⟩ : ∃ W, W = w3 := ⟨_, rfl⟩
  obtain ⟨st, hst⟩ : ∃ b, htmlB (er t) = b := ⟨_, rfl⟩
  obtain ⟨sl, hsl⟩ : ∃ b, htmlsB (erL ts) = b := ⟨_, rfl⟩
  have CP : Hid (∀ w9, Below W.heap.size W w9 → Calls Try.prog 8 #[.agg #[.string t.tag, .string t.txt, .string t.key, .slice t.sa.A t.sa.n t.sa.c, .slice t.sk.A t.sk.n t.sk.c]] w9 fun e w' => e = .returned (.string st) ∧ Below w9.heap.size w9 w') := Lib.hid (fun w9 h => by have := sput_any t w9 (HT.out w9 (B4.out.trans (h.mono B4.out.size))) hmf hc1; rw [hst] at this; exact this)
  have CR : Hid (∀ w9, Below W.heap.size W w9 → Calls Try.prog 9 #[.agg #[.string t.tag, .string t.txt, .string t.key, .slice t.sa.A t.sa.n t.sa.c, .slice t.sk.A t.sk.n t.sk.c]] w9 fun e w' => e = .returned (.string st) ∧ Below w9.heap.size w9 w') := Lib.hid (fun w9 h => by have := rput_any t w9 (HT.out w9 (B4.out.trans (h.mono B4.out.size))) hmf hc1; rw [hst] at this; exact this)
  have CA : Hid (∀ w9, Below W.heap.size W w9 → Calls Try.prog 10 #[.slice A n c] w9 fun e w' => e = .returned (.string sl) ∧ Below w9.heap.size w9 w') := Lib.hid (fun w9 h => by have := sall_any ts A n c w9 (HH.out w9 (B4.out.trans (h.mono B4.out.size))) HN.out (HO.out w9 (B4.out.trans (h.mono B4.out.size))) hmf' hc2; rw [hsl] at this; exact this)
  have CX : Hid (∀ w9, Below W.heap.size W w9 → Calls Try.prog 11 #[.slice A n c] w9 fun e w' => e = .returned (.string sl) ∧ Below w9.heap.size w9 w') := Lib.hid (fun w9 h => by have := rall_any ts w9 A n c (HH.out w9 (B4.out.trans (h.mono B4.out.size))) HN.out (HO.out w9 (B4.out.trans (h.mono B4.out.size))) hmf' hc2; rw [hsl] at this; exact this)
  have SKEEP : Hid (∀ w', Below W.heap.size W w' → (w'.cell? ⟨w.heap.size, 0, none⟩ = some (.string t.tag) ∧ w'.cell? ⟨w.heap.size, 1, none⟩ = some (.string t.txt) ∧ w'.cell? ⟨w.heap.size, 2, none⟩ = some (.string t.key) ∧ w'.cell? ⟨w.heap.size, 3, none⟩ = some (.slice t.sa.A t.sa.n t.sa.c) ∧ w'.cell? ⟨w.heap.size, 4, none⟩ = some (.slice t.sk.A t.sk.n t.sk.c))) := Lib.hid (fun w' h => ⟨(N4.out.below h N4.out.lt).c0, (N4.out.below h N4.out.lt).c1, (N4.out.below h N4.out.lt).c2, (N4.out.below h N4.out.lt).c3, (N4.out.below h N4.out.lt).c4⟩)
  have BW : Hid (Below W.heap.size W W) := Lib.hid (Below.refl _ _)
  have a0 := N4.out.c0; have a1 := N4.out.c1; have a2 := N4.out.c2; have a3 := N4.out.c3; have a4 := N4.out.c4
  clear N4 HT HH HO HN HC HF hmc hmc' hmf hmf' hm3 hm3' hst hsl hm1 hm2 hm2' hm hm' hc1 hc2
  go_wp2_with fail
  go_region_held3 (fun w' => w'.cell? ⟨w.heap.size, 0, none⟩ = some (.string t.tag) ∧ w'.cell? ⟨w.heap.size, 1, none⟩ = some (.string t.txt) ∧ w'.cell? ⟨w.heap.size, 2, none⟩ = some (.string t.key) ∧ w'.cell? ⟨w.heap.size, 3, none⟩ = some (.slice t.sa.A t.sa.n t.sa.c) ∧ w'.cell? ⟨w.heap.size, 4, none⟩ = some (.slice t.sk.A t.sk.n t.sk.c)) (first | go_keep | exact SK) ((first
    | (go_at_call 8; refine (CP.out _ (by first | exact BW.out | exact Below_drewN BW.out _ | exact bl_drew BW.out | exact bl_alloc BW.out _ | exact bl_alloc (bl_drew BW.out) _)).mono ?_; rintro e w5 ⟨rfl, b5⟩; have BW : Hid (Below W.heap.size W w5) := Lib.hid (by first | exact bl_call b5 BW.out | exact bl_call b5 (Below_drewN BW.out _) | exact bl_call b5 (bl_drew BW.out) | exact bl_call b5 (bl_alloc BW.out _) | exact bl_call b5 (bl_alloc (bl_drew BW.out) _)); have SK := SKEEP.out w5 BW.out; clear b5)
    | (go_at_call 9; refine (CR.out _ (by first | exact BW.out | exact Below_drewN BW.out _ | exact bl_drew BW.out | exact bl_alloc BW.out _ | exact bl_alloc (bl_drew BW.out) _)).mono ?_; rintro e w5 ⟨rfl, b5⟩; have BW : Hid (Below W.heap.size W w5) := Lib.hid (by first | exact bl_call b5 BW.out | exact bl_call b5 (Below_drewN BW.out _) | exact bl_call b5 (bl_drew BW.out) | exact bl_call b5 (bl_alloc BW.out _) | exact bl_call b5 (bl_alloc (bl_drew BW.out) _)); have SK := SKEEP.out w5 BW.out; clear b5)
    | (go_at_call 10; refine (CA.out _ (by first | exact BW.out | exact Below_drewN BW.out _ | exact bl_drew BW.out | exact bl_alloc BW.out _ | exact bl_alloc (bl_drew BW.out) _)).mono ?_; rintro e w5 ⟨rfl, b5⟩; have BW : Hid (Below W.heap.size W w5) := Lib.hid (by first | exact bl_call b5 BW.out | exact bl_call b5 (Below_drewN BW.out _) | exact bl_call b5 (bl_drew BW.out) | exact bl_call b5 (bl_alloc BW.out _) | exact bl_call b5 (bl_alloc (bl_drew BW.out) _)); have SK := SKEEP.out w5 BW.out; clear b5)
    | (go_at_call 11; refine (CX.out _ (by first | exact BW.out | exact Below_drewN BW.out _ | exact bl_drew BW.out | exact bl_alloc BW.out _ | exact bl_alloc (bl_drew BW.out) _)).mono ?_; rintro e w5 ⟨rfl, b5⟩; have BW : Hid (Below W.heap.size W w5) := Lib.hid (by first | exact bl_call b5 BW.out | exact bl_call b5 (Below_drewN BW.out _) | exact bl_call b5 (bl_drew BW.out) | exact bl_call b5 (bl_alloc BW.out _) | exact bl_call b5 (bl_alloc (bl_drew BW.out) _)); have SK := SKEEP.out w5 BW.out; clear b5)
    | fail))
  all_goals
    go_wp2_with fail
    go_ret
    exact ⟨rfl, B4.out.trans (BW.out.mono B4.out.size)⟩
end Go.Proofs.Ytemfflhgbgdmjaa.P9
