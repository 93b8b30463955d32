/- The walk of SerialOne: it answers true. No condition. -/
import Derived.Deep.DeepCutAuto
import Derived.Deep.CutBlock
import Derived.Test.YtemfflhgbgdmjaaM23
set_option linter.unusedVariables false
set_option linter.unusedSimpArgs false
namespace Go.Proofs.Ytemfflhgbgdmjaa.P9
open Go.RowKit Kd P4 P5 P8

theorem two_ok {w : World} {g : Nat} {t u : TV} (h : w.heap[g]? = some (.cells #[.string t.tag, .string t.txt, .string t.key, .slice t.sa.A t.sa.n t.sa.c, .slice t.sk.A t.sk.n t.sk.c, .string u.tag, .string u.txt, .string u.key, .slice u.sa.A u.sa.n u.sa.c, .slice u.sk.A u.sk.n u.sk.c] 25 (0, 0))) : kT.Holds w w.heap.size (some ⟨g, 0, none⟩) [t, u] := (Kind.Holds.lit h rfl).more (heap_lt h)
theorem one_ok {w : World} {g : Nat} {t : TV} (h : w.heap[g]? = some (.cells #[.string t.tag, .string t.txt, .string t.key, .slice t.sa.A t.sa.n t.sa.c, .slice t.sk.A t.sk.n t.sk.c] 25 (0, 0))) : kT.Holds w w.heap.size (some ⟨g, 0, none⟩) [t] := (Kind.Holds.lit h rfl).more (heap_lt h)
theorem er2 (t u : TV) : erL [t, u] = [er t, er u] := by simp [erL]
theorem er1 (t : TV) : erL [t] = [er t] := by simp [erL]
theorem html2 (a b : PT) : htmlsB [a, b] = htmlB a ++ htmlB b := by
  unfold htmlsB htmlB
  rw [P2.str_append]
  simp [allH]
theorem one_eq {a b : PT} (ha : mayP a = true) (hb : mayP b = true) (pa : plL [a] false = true) (pb : plL [b] false = true) : ((htmlB a).toList == (htmlB b).toList) = sameP a b := by
  have h := put_one ha hb pa pb
  have e : ((htmlB a).toList = (htmlB b).toList) ↔ putH a = putH b := by
    rw [ByteArray.toList_eq, ByteArray.toList_eq]
    unfold htmlB
    simp
  rw [Bool.eq_iff_iff, beq_iff_eq, e, h]
set_option maxHeartbeats 2000000 in
theorem plain1_any (t : TV) (w : World) (g : Nat) (h : TOk w w.heap.size t) (hf : fewP (er t) = true) (hc : countP (er t) ≤ 900) (hg : w.heap[g]? = some (.cells #[.string t.tag, .string t.txt, .string t.key, .slice t.sa.A t.sa.n t.sa.c, .slice t.sk.A t.sk.n t.sk.c] 25 (0, 0))) :
    Calls Try.prog 13 #[.slice (some ⟨g, 0, none⟩) 1 1] w fun e w' => e = .returned (.bool (plL [er t] false)) ∧ Below w.heap.size w w' := by
  have := plain_any [t] w (some ⟨g, 0, none⟩) 1 1 (one_ok hg) rfl (fun k hk => by rw [List.mem_singleton.1 hk]; exact h) (by rw [er1]; simp [fewL, hf]) (by rw [er1]; simp [countL]; omega)
  rw [er1] at this
  exact this

set_option maxRecDepth 100000 in
set_option maxHeartbeats 20000000 in
theorem one9_any (t u : TV) (w : World) (ht : TOk w w.heap.size t) (hu : TOk w w.heap.size u) (ft : TFit t) (fu : TFit u) :
    Calls Try.prog 4 #[.agg #[.string t.tag, .string t.txt, .string t.key, .slice t.sa.A t.sa.n t.sa.c, .slice t.sk.A t.sk.n t.sk.c], .agg #[.string u.tag, .string u.txt, .string u.key, .slice u.sa.A u.sa.n u.sa.c, .slice u.sk.A u.sk.n u.sk.c]] w fun e w' => e = .returned (.bool true) ∧ Below w.heap.size w w' := by
  have B1 : Hid (Below w.heap.size w ((w.alloc (.cells #[.string t.tag, .string t.txt, .string t.key, .slice t.sa.A t.sa.n t.sa.c, .slice t.sk.A t.sk.n t.sk.c] 25)).alloc (.cells #[.string u.tag, .string u.txt, .string u.key, .slice u.sa.A u.sa.n u.sa.c, .slice u.sk.A u.sk.n u.sk.c] 25))) := Lib.hid (((Below.refl _ _).alloc (Nat.le_refl _) _).alloc (by simp) _)
  have N1 : Hid (TB ((w.alloc (.cells #[.string t.tag, .string t.txt, .string t.key, .slice t.sa.A t.sa.n t.sa.c, .slice t.sk.A t.sk.n t.sk.c] 25)).alloc (.cells #[.string u.tag, .string u.txt, .string u.key, .slice u.sa.A u.sa.n u.sa.c, .slice u.sk.A u.sk.n u.sk.c] 25)) w.heap.size t) := Lib.hid (heap_up (TB.new w t))
  have M1 : Hid (TB ((w.alloc (.cells #[.string t.tag, .string t.txt, .string t.key, .slice t.sa.A t.sa.n t.sa.c, .slice t.sk.A t.sk.n t.sk.c] 25)).alloc (.cells #[.string u.tag, .string u.txt, .string u.key, .slice u.sa.A u.sa.n u.sa.c, .slice u.sk.A u.sk.n u.sk.c] 25)) (w.heap.size + 1) u) := Lib.hid (heap_top (by simp))
  have HT : Hid (∀ w9, Below w.heap.size w w9 → TOk w9 w9.heap.size t) := Lib.hid (fun w9 h => ht.on h)
  have HU : Hid (∀ w9, Below w.heap.size w w9 → TOk w9 w9.heap.size u) := Lib.hid (fun w9 h => hu.on h)
  clear ht hu
  go_enter Try.func4, Try.ntmps4
  go_upto_region 1 with fail
  generalize ((w.alloc (.cells #[.string t.tag, .string t.txt, .string t.key, .slice t.sa.A t.sa.n t.sa.c, .slice t.sk.A t.sk.n t.sk.c] 25)).alloc (.cells #[.string u.tag, .string u.txt, .string u.key, .slice u.sa.A u.sa.n u.sa.c, .slice u.sk.A u.sk.n u.sk.c] 25)) = W0 at B1 N1 M1 ⊢
  go_wp2_with fail
  refine (up9_any W0).mono ?_
  rintro e w1 ⟨rfl, b⟩
  have B2 := Lib.hid (bl_call b B1.out)
  have N2 := Lib.hid (N1.out.below b N1.out.lt)
  have M2 := Lib.hid (M1.out.below b M1.out.lt)
  clear b B1 N1 M1
  have a0 := N2.out.c0; have a1 := N2.out.c1; have a2 := N2.out.c2; have a3 := N2.out.c3; have a4 := N2.out.c4
  go_wp2_with fail
  refine (many_any t 60 w1 (by omega) (HT.out w1 B2.out) ft).mono ?_
  rintro e w2 ⟨m, rfl, hm1, hm2, hm3, b⟩
  have B3 := Lib.hid (bl_call b B2.out)
  have N3 := Lib.hid (N2.out.below b N2.out.lt)
  have M3 := Lib.hid (M2.out.below b M2.out.lt)
  clear b B2 N2 M2 a0 a1 a2 a3 a4
  have b0 := M3.out.c0; have b1 := M3.out.c1; have b2 := M3.out.c2; have b3 := M3.out.c3; have b4 := M3.out.c4
  by_cases hm : 60 < m
  · have q1 : decide ((60 : Int) < (m : Int)) = true := by simp; omega
    go_wp2_with fail
    go_ret
    exact ⟨rfl, B3.out⟩
  have q1 : decide ((60 : Int) < (m : Int)) = false := by simp; omega
  obtain ⟨hmc, hmf⟩ := hm3 (by omega)
  go_wp2_with fail
  refine (many_any u 60 w2 (by omega) (HU.out w2 B3.out) fu).mono ?_
  rintro e w3 ⟨m', rfl, hm1', hm2', hm3', b⟩
  have B4 := Lib.hid (bl_call b B3.out)
  have N4 := Lib.hid (N3.out.below b N3.out.lt)
  have M4 := Lib.hid (M3.out.below b M3.out.lt)
  clear b B3 N3 M3 b0 b1 b2 b3 b4
  by_cases hm' : 60 < m'
  · have q2 : decide ((60 : Int) < (m' : Int)) = true := by simp; omega
    go_wp2_with fail
    go_ret
    exact ⟨rfl, B4.out⟩
  have q2 : decide ((60 : Int) < (m' : Int)) = false := by simp; omega
  obtain ⟨hmc', hmf'⟩ := hm3' (by omega)
  have hc1 : countP (er t) ≤ 900 := by omega
  have hc2 : countP (er u) ≤ 900 := by omega
  have hs1 := html_size hmf (by omega : countP (er t) ≤ 1000)
  have hs2 := html_size hmf' (by omega : countP (er u) ≤ 1000)
  obtain ⟨W, rfl⟩ : ∃ W, W = w3 := ⟨_, rfl⟩
  obtain ⟨st, hst⟩ : ∃ b, htmlB (er t) = b := ⟨_, rfl⟩
  obtain ⟨su, hsu⟩ : ∃ b, htmlB (er u) = b := ⟨_, rfl⟩
  obtain ⟨sb, hsb⟩ : ∃ b, st ++ su = b := ⟨_, rfl⟩
  rw [hst] at hs1
  rw [hsu] at hs2
  have s1 : ∀ W : World, (Op.stringOp .add st su).run Try.prog W = .ok (.string sb) W := fun W => hsb ▸ run_string_add_sum W _ _ (by omega)
  have CT : Hid (∀ w9, Below W.heap.size W w9 → Calls Try.prog 8 #[.agg #[.string t.tag, .string t.txt, .string t.key, .slice t.sa.A t.sa.n t.sa.c, .slice t.sk.A t.sk.n t.sk.c]] w9 fun e w' => e = .returned (.string st) ∧ Below w9.heap.size w9 w') := Lib.hid (fun w9 h => by have := sput_any t w9 (HT.out w9 (B4.out.trans (h.mono B4.out.size))) hmf (by omega); rw [hst] at this; exact this)
  have CU : Hid (∀ w9, Below W.heap.size W w9 → Calls Try.prog 8 #[.agg #[.string u.tag, .string u.txt, .string u.key, .slice u.sa.A u.sa.n u.sa.c, .slice u.sk.A u.sk.n u.sk.c]] w9 fun e w' => e = .returned (.string su) ∧ Below w9.heap.size w9 w') := Lib.hid (fun w9 h => by have := sput_any u w9 (HU.out w9 (B4.out.trans (h.mono B4.out.size))) hmf' (by omega); rw [hsu] at this; exact this)
  have CA : Hid (∀ w9 g, Below W.heap.size W w9 → w9.heap[g]? = some (.cells #[.string t.tag, .string t.txt, .string t.key, .slice t.sa.A t.sa.n t.sa.c, .slice t.sk.A t.sk.n t.sk.c, .string u.tag, .string u.txt, .string u.key, .slice u.sa.A u.sa.n u.sa.c, .slice u.sk.A u.sk.n u.sk.c] 25 (0, 0)) → Calls Try.prog 10 #[.slice (some ⟨g, 0, none⟩) 2 2] w9 fun e w' => e = .returned (.string sb) ∧ Below w9.heap.size w9 w') := Lib.hid (fun w9 g h hg => by
    have hb := B4.out.trans (h.mono B4.out.size)
    have := sall_any [t, u] (some ⟨g, 0, none⟩) 2 2 w9 (two_ok hg) rfl (fun k hk => by
      rcases List.mem_cons.1 hk with rfl | hk
      · exact HT.out w9 hb
      · rw [List.mem_singleton.1 hk]; exact HU.out w9 hb) (by rw [er2]; simp [fewL, hmf, hmf']) (by rw [er2]; simp [countL]; omega)
    rw [er2, html2, hst, hsu, hsb] at this
    exact this)
  have SKEEP : Hid (∀ w', Below W.heap.size W w' → (w'.cell? ⟨w.heap.size, 0, none⟩ = some (.string t.tag) ∧ w'.cell? ⟨w.heap.size, 1, none⟩ = some (.string t.txt) ∧ w'.cell? ⟨w.heap.size, 2, none⟩ = some (.string t.key) ∧ w'.cell? ⟨w.heap.size, 3, none⟩ = some (.slice t.sa.A t.sa.n t.sa.c) ∧ w'.cell? ⟨w.heap.size, 4, none⟩ = some (.slice t.sk.A t.sk.n t.sk.c) ∧ w'.cell? ⟨w.heap.size + 1, 0, none⟩ = some (.string u.tag) ∧ w'.cell? ⟨w.heap.size + 1, 1, none⟩ = some (.string u.txt) ∧ w'.cell? ⟨w.heap.size + 1, 2, none⟩ = some (.string u.key) ∧ w'.cell? ⟨w.heap.size + 1, 3, none⟩ = some (.slice u.sa.A u.sa.n u.sa.c) ∧ w'.cell? ⟨w.heap.size + 1, 4, none⟩ = some (.slice u.sk.A u.sk.n u.sk.c))) := Lib.hid (fun w' h => ⟨(N4.out.below h N4.out.lt).c0, (N4.out.below h N4.out.lt).c1, (N4.out.below h N4.out.lt).c2, (N4.out.below h N4.out.lt).c3, (N4.out.below h N4.out.lt).c4, (M4.out.below h M4.out.lt).c0, (M4.out.below h M4.out.lt).c1, (M4.out.below h M4.out.lt).c2, (M4.out.below h M4.out.lt).c3, (M4.out.below h M4.out.lt).c4⟩)
  have BW : Hid (Below W.heap.size W W) := Lib.hid (Below.refl _ _)
  have F1 := Lib.hid hmf
  have F2 := Lib.hid hmf'
  have HST := Lib.hid hst
  have HSU := Lib.hid hsu
  have C1 := Lib.hid hc1
  have C2 := Lib.hid hc2
  have a0 := N4.out.c0; have a1 := N4.out.c1; have a2 := N4.out.c2; have a3 := N4.out.c3; have a4 := N4.out.c4
  have b0 := M4.out.c0; have b1 := M4.out.c1; have b2 := M4.out.c2; have b3 := M4.out.c3; have b4 := M4.out.c4
  clear hmc hmc' hmf hmf' hm3 hm3' hst hsu hsb hm1 hm2 hm1' hm2' hm hm' hs1 hs2 hc1 hc2
  go_upto_region 4 with fail
  go_cut [27] (fun s wx => s = .bool false ∧ Hid (Below W.heap.size W wx))
  case first =>
    go_region_held3 (fun w' => w'.cell? ⟨w.heap.size, 0, none⟩ = some (.string t.tag) ∧ w'.cell? ⟨w.heap.size, 1, none⟩ = some (.string t.txt) ∧ w'.cell? ⟨w.heap.size, 2, none⟩ = some (.string t.key) ∧ w'.cell? ⟨w.heap.size, 3, none⟩ = some (.slice t.sa.A t.sa.n t.sa.c) ∧ w'.cell? ⟨w.heap.size, 4, none⟩ = some (.slice t.sk.A t.sk.n t.sk.c) ∧ w'.cell? ⟨w.heap.size + 1, 0, none⟩ = some (.string u.tag) ∧ w'.cell? ⟨w.heap.size + 1, 1, none⟩ = some (.string u.txt) ∧ w'.cell? ⟨w.heap.size + 1, 2, none⟩ = some (.string u.key) ∧ w'.cell? ⟨w.heap.size + 1, 3, none⟩ = some (.slice u.sa.A u.sa.n u.sa.c) ∧ w'.cell? ⟨w.heap.size + 1, 4, none⟩ = some (.slice u.sk.A u.sk.n u.sk.c)) (first | go_keep | exact SK) ((first
      | (go_at_call 10; refine (CA.out _ _ (by first | exact BW.out | exact Below_drewN BW.out _ | exact bl_drew BW.out | exact bl_alloc BW.out _ | exact bl_alloc (bl_drew BW.out) _) (by repeat (first | exact heap_top (by first | rfl | (simp; done) | omega) | refine heap_up ?_ | refine up_call (by assumption) ?_ | refine heap_drew ?_))).mono ?_; rintro e w5 ⟨rfl, b5⟩; have BW : Hid (Below W.heap.size W w5) := Lib.hid (by first | exact bl_call b5 BW.out | exact bl_call b5 (Below_drewN BW.out _) | exact bl_call b5 (bl_drew BW.out) | exact bl_call b5 (bl_alloc BW.out _) | exact bl_call b5 (bl_alloc (bl_drew BW.out) _)); have SK := SKEEP.out w5 BW.out)
      | (go_at_call_of 8 (Value.string t.tag); refine (CT.out _ (by first | exact BW.out | exact Below_drewN BW.out _ | exact bl_drew BW.out | exact bl_alloc BW.out _ | exact bl_alloc (bl_drew BW.out) _)).mono ?_; rintro e w5 ⟨rfl, b5⟩; have BW : Hid (Below W.heap.size W w5) := Lib.hid (by first | exact bl_call b5 BW.out | exact bl_call b5 (Below_drewN BW.out _) | exact bl_call b5 (bl_drew BW.out) | exact bl_call b5 (bl_alloc BW.out _) | exact bl_call b5 (bl_alloc (bl_drew BW.out) _)); have SK := SKEEP.out w5 BW.out)
      | (go_at_call 8; refine (CU.out _ (by first | exact BW.out | exact Below_drewN BW.out _ | exact bl_drew BW.out | exact bl_alloc BW.out _ | exact bl_alloc (bl_drew BW.out) _)).mono ?_; rintro e w5 ⟨rfl, b5⟩; have BW : Hid (Below W.heap.size W w5) := Lib.hid (by first | exact bl_call b5 BW.out | exact bl_call b5 (Below_drewN BW.out _) | exact bl_call b5 (bl_drew BW.out) | exact bl_call b5 (bl_alloc BW.out _) | exact bl_call b5 (bl_alloc (bl_drew BW.out) _)); have SK := SKEEP.out w5 BW.out)
      | fail))
    all_goals
      go_wp2_with fail
      go_meet
      exact ⟨by first | rfl | simp, Lib.hid (by first | exact BW.out | exact Below_drewN BW.out _ | exact bl_alloc BW.out _)⟩
  case rest =>
    obtain ⟨rfl, H5⟩ := hcut
    obtain ⟨w4, rfl⟩ : ∃ w4, w4 = wc := ⟨_, rfl⟩
    have B5 := Lib.hid (B4.out.trans (H5.out.mono B4.out.size))
    have N5 := Lib.hid (N4.out.below H5.out N4.out.lt)
    have M5 := Lib.hid (M4.out.below H5.out M4.out.lt)
    clear a0 a1 a2 a3 a4 b0 b1 b2 b3 b4 N4 M4 SKEEP CA s1
    have a0 := N5.out.c0; have a1 := N5.out.c1; have a2 := N5.out.c2; have a3 := N5.out.c3; have a4 := N5.out.c4
    go_wp2_with fail
    refine (rmay8_any t w4 (HT.out w4 B5.out) F1.out (by have := C1.out; omega)).mono ?_
    rintro e w5 ⟨rfl, b⟩
    obtain ⟨m1, hm1⟩ : ∃ b, mayP (er t) = b := ⟨_, rfl⟩
    rw [hm1]
    have HM1 := Lib.hid hm1
    have B6 := Lib.hid (bl_call b B5.out)
    have N6 := Lib.hid (N5.out.below b N5.out.lt)
    have M6 := Lib.hid (M5.out.below b M5.out.lt)
    have W6 := Lib.hid (bl_call b H5.out)
    clear b B5 N5 M5 a0 a1 a2 a3 a4 hm1 H5
    have b0 := M6.out.c0; have b1 := M6.out.c1; have b2 := M6.out.c2; have b3 := M6.out.c3; have b4 := M6.out.c4
    go_wp2_with fail
    refine (rmay8_any u w5 (HU.out w5 B6.out) F2.out (by have := C2.out; omega)).mono ?_
    rintro e w6 ⟨rfl, b⟩
    obtain ⟨m2, hm2⟩ : ∃ b, mayP (er u) = b := ⟨_, rfl⟩
    rw [hm2]
    have HM2 := Lib.hid hm2
    have B7 := Lib.hid (bl_call b B6.out)
    have N7 := Lib.hid (N6.out.below b N6.out.lt)
    have M7 := Lib.hid (M6.out.below b M6.out.lt)
    clear b B6 N6 M6 b0 b1 b2 b3 b4 hm2 W6
    cases m1 with
    | false =>
      go_wp2_with fail
      go_ret
      exact ⟨rfl, B7.out⟩
    | true =>
    cases m2 with
    | false =>
      go_wp2_with fail
      go_ret
      exact ⟨rfl, B7.out⟩
    | true =>
    have a0 := N7.out.c0; have a1 := N7.out.c1; have a2 := N7.out.c2; have a3 := N7.out.c3; have a4 := N7.out.c4
    go_wp2_with fail
    refine (plain1_any t _ w6.heap.size ((HT.out w6 B7.out).on ((Below.refl w6.heap.size w6).alloc (Nat.le_refl _) _)) F1.out C1.out (heap_alloc_new _ _)).mono ?_
    rintro e w7 ⟨rfl, b⟩
    obtain ⟨p1, hp1⟩ : ∃ b, plL [er t] false = b := ⟨_, rfl⟩
    rw [hp1]
    have HP1 := Lib.hid hp1
    have b' := bl_call b (bl_alloc (Below.refl w6.heap.size w6) _)
    have B8 := Lib.hid (bl_call b' B7.out)
    have N8 := Lib.hid (N7.out.below b' N7.out.lt)
    have M8 := Lib.hid (M7.out.below b' M7.out.lt)
    clear b b' B7 N7 M7 a0 a1 a2 a3 a4 hp1
    cases p1 with
    | false =>
      go_wp2_with fail
      go_ret
      exact ⟨rfl, B8.out⟩
    | true =>
    have b0 := M8.out.c0; have b1 := M8.out.c1; have b2 := M8.out.c2; have b3 := M8.out.c3; have b4 := M8.out.c4
    go_wp2_with fail
    refine (plain1_any u _ w7.heap.size ((HU.out w7 B8.out).on ((Below.refl w7.heap.size w7).alloc (Nat.le_refl _) _)) F2.out C2.out (heap_alloc_new _ _)).mono ?_
    rintro e w8 ⟨rfl, b⟩
    obtain ⟨p2, hp2⟩ : ∃ b, plL [er u] false = b := ⟨_, rfl⟩
    rw [hp2]
    have HP2 := Lib.hid hp2
    have b' := bl_call b (bl_alloc (Below.refl w7.heap.size w7) _)
    have B9 := Lib.hid (bl_call b' B8.out)
    have N9 := Lib.hid (N8.out.below b' N8.out.lt)
    have M9 := Lib.hid (M8.out.below b' M8.out.lt)
    clear b b' B8 N8 M8 b0 b1 b2 b3 b4 hp2
    cases p2 with
    | false =>
      go_wp2_with fail
      go_ret
      exact ⟨rfl, B9.out⟩
    | true =>
    obtain ⟨W, rfl⟩ : ∃ W, W = w8 := ⟨_, rfl⟩
    obtain ⟨bs, hbs⟩ : ∃ b, sameP (er t) (er u) = b := ⟨_, rfl⟩
    have hq : (st.toList == su.toList) = bs := by rw [← HST.out, ← HSU.out, ← hbs]; exact one_eq HM1.out HM2.out HP1.out HP2.out
    have CT : Hid (∀ w9, Below W.heap.size W w9 → Calls Try.prog 8 #[.agg #[.string t.tag, .string t.txt, .string t.key, .slice t.sa.A t.sa.n t.sa.c, .slice t.sk.A t.sk.n t.sk.c]] w9 fun e w' => e = .returned (.string st) ∧ Below w9.heap.size w9 w') := Lib.hid (fun w9 h => by have := sput_any t w9 (HT.out w9 (B9.out.trans (h.mono B9.out.size))) F1.out (by have := C1.out; omega); rw [HST.out] at this; exact this)
    have CU : Hid (∀ w9, Below W.heap.size W w9 → Calls Try.prog 8 #[.agg #[.string u.tag, .string u.txt, .string u.key, .slice u.sa.A u.sa.n u.sa.c, .slice u.sk.A u.sk.n u.sk.c]] w9 fun e w' => e = .returned (.string su) ∧ Below w9.heap.size w9 w') := Lib.hid (fun w9 h => by have := sput_any u w9 (HU.out w9 (B9.out.trans (h.mono B9.out.size))) F2.out (by have := C2.out; omega); rw [HSU.out] at this; exact this)
    have CS : Hid (∀ w9, Below W.heap.size W w9 → Calls Try.prog 14 #[.agg #[.string t.tag, .string t.txt, .string t.key, .slice t.sa.A t.sa.n t.sa.c, .slice t.sk.A t.sk.n t.sk.c], .agg #[.string u.tag, .string u.txt, .string u.key, .slice u.sa.A u.sa.n u.sa.c, .slice u.sk.A u.sk.n u.sk.c]] w9 fun e w' => e = .returned (.bool bs) ∧ Below w9.heap.size w9 w') := Lib.hid (fun w9 h => by have := rsame8_any t u w9 (HT.out w9 (B9.out.trans (h.mono B9.out.size))) (HU.out w9 (B9.out.trans (h.mono B9.out.size))) F1.out F2.out (by have := C1.out; omega) (by have := C2.out; omega); rw [hbs] at this; exact this)
    have SKEEP : Hid (∀ w', Below W.heap.size W w' → (w'.cell? ⟨w.heap.size, 0, none⟩ = some (.string t.tag) ∧ w'.cell? ⟨w.heap.size, 1, none⟩ = some (.string t.txt) ∧ w'.cell? ⟨w.heap.size, 2, none⟩ = some (.string t.key) ∧ w'.cell? ⟨w.heap.size, 3, none⟩ = some (.slice t.sa.A t.sa.n t.sa.c) ∧ w'.cell? ⟨w.heap.size, 4, none⟩ = some (.slice t.sk.A t.sk.n t.sk.c) ∧ w'.cell? ⟨w.heap.size + 1, 0, none⟩ = some (.string u.tag) ∧ w'.cell? ⟨w.heap.size + 1, 1, none⟩ = some (.string u.txt) ∧ w'.cell? ⟨w.heap.size + 1, 2, none⟩ = some (.string u.key) ∧ w'.cell? ⟨w.heap.size + 1, 3, none⟩ = some (.slice u.sa.A u.sa.n u.sa.c) ∧ w'.cell? ⟨w.heap.size + 1, 4, none⟩ = some (.slice u.sk.A u.sk.n u.sk.c))) := Lib.hid (fun w' h => ⟨(N9.out.below h N9.out.lt).c0, (N9.out.below h N9.out.lt).c1, (N9.out.below h N9.out.lt).c2, (N9.out.below h N9.out.lt).c3, (N9.out.below h N9.out.lt).c4, (M9.out.below h M9.out.lt).c0, (M9.out.below h M9.out.lt).c1, (M9.out.below h M9.out.lt).c2, (M9.out.below h M9.out.lt).c3, (M9.out.below h M9.out.lt).c4⟩)
    have BW : Hid (Below W.heap.size W W) := Lib.hid (Below.refl _ _)
    have a0 := N9.out.c0; have a1 := N9.out.c1; have a2 := N9.out.c2; have a3 := N9.out.c3; have a4 := N9.out.c4
    have b0 := M9.out.c0; have b1 := M9.out.c1; have b2 := M9.out.c2; have b3 := M9.out.c3; have b4 := M9.out.c4
    clear hbs N9 M9
    go_upto_region 10 with fail
    go_region_held3 (fun w' => w'.cell? ⟨w.heap.size, 0, none⟩ = some (.string t.tag) ∧ w'.cell? ⟨w.heap.size, 1, none⟩ = some (.string t.txt) ∧ w'.cell? ⟨w.heap.size, 2, none⟩ = some (.string t.key) ∧ w'.cell? ⟨w.heap.size, 3, none⟩ = some (.slice t.sa.A t.sa.n t.sa.c) ∧ w'.cell? ⟨w.heap.size, 4, none⟩ = some (.slice t.sk.A t.sk.n t.sk.c) ∧ w'.cell? ⟨w.heap.size + 1, 0, none⟩ = some (.string u.tag) ∧ w'.cell? ⟨w.heap.size + 1, 1, none⟩ = some (.string u.txt) ∧ w'.cell? ⟨w.heap.size + 1, 2, none⟩ = some (.string u.key) ∧ w'.cell? ⟨w.heap.size + 1, 3, none⟩ = some (.slice u.sa.A u.sa.n u.sa.c) ∧ w'.cell? ⟨w.heap.size + 1, 4, none⟩ = some (.slice u.sk.A u.sk.n u.sk.c)) (first | go_keep | exact SK) ((first
      | (go_at_call_of 8 (Value.string t.tag); refine (CT.out _ (by first | exact BW.out | exact Below_drewN BW.out _ | exact bl_drew BW.out | exact bl_alloc BW.out _ | exact bl_alloc (bl_drew BW.out) _)).mono ?_; rintro e w5 ⟨rfl, b5⟩; have BW : Hid (Below W.heap.size W w5) := Lib.hid (by first | exact bl_call b5 BW.out | exact bl_call b5 (Below_drewN BW.out _) | exact bl_call b5 (bl_drew BW.out) | exact bl_call b5 (bl_alloc BW.out _) | exact bl_call b5 (bl_alloc (bl_drew BW.out) _)); have SK := SKEEP.out w5 BW.out)
      | (go_at_call 8; refine (CU.out _ (by first | exact BW.out | exact Below_drewN BW.out _ | exact bl_drew BW.out | exact bl_alloc BW.out _ | exact bl_alloc (bl_drew BW.out) _)).mono ?_; rintro e w5 ⟨rfl, b5⟩; have BW : Hid (Below W.heap.size W w5) := Lib.hid (by first | exact bl_call b5 BW.out | exact bl_call b5 (Below_drewN BW.out _) | exact bl_call b5 (bl_drew BW.out) | exact bl_call b5 (bl_alloc BW.out _) | exact bl_call b5 (bl_alloc (bl_drew BW.out) _)); have SK := SKEEP.out w5 BW.out)
      | (go_at_call 14; refine (CS.out _ (by first | exact BW.out | exact Below_drewN BW.out _ | exact bl_drew BW.out | exact bl_alloc BW.out _ | exact bl_alloc (bl_drew BW.out) _)).mono ?_; rintro e w5 ⟨rfl, b5⟩; have BW : Hid (Below W.heap.size W w5) := Lib.hid (by first | exact bl_call b5 BW.out | exact bl_call b5 (Below_drewN BW.out _) | exact bl_call b5 (bl_drew BW.out) | exact bl_call b5 (bl_alloc BW.out _) | exact bl_call b5 (bl_alloc (bl_drew BW.out) _)); have SK := SKEEP.out w5 BW.out)
      | fail))
    all_goals
      go_wp2_with fail
      go_ret
      exact ⟨by first | rfl | simp [hq], B9.out.trans (BW.out.mono B9.out.size)⟩
end Go.Proofs.Ytemfflhgbgdmjaa.P9
