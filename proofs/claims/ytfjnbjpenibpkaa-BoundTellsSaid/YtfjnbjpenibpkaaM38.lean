/- What the program's fault answers: the first error of an instruction, behind what the front has kept. No condition but those stated. -/
import Derived.Deep.RegionWith
import Derived.Deep.RegionHeld3
import Derived.Test.YtfjnbjpenibpkaaM22
import Derived.Test.YtfjnbjpenibpkaaM29
import Derived.Test.YtfjnbjpenibpkaaM37
set_option linter.unusedVariables false
set_option linter.unusedSimpArgs false
set_option linter.unusedVariables false
set_option linter.unusedSimpArgs false
namespace Go.Proofs.Ytfjnbjpenibpkaa.P13
open Go.RowKit Kd P4 P5 P11 P12 Mv

theorem place_cells {w : World} {B g n c : Nat} {ps : List Pl} (h : kPl.Own w B (.slice (some ⟨g, 0, none⟩) n c) ps) {i : Nat} (hi : i < ps.length) :
    w.cell? ⟨g, i * 2, none⟩ = some (.map (some ps[i].m)) ∧ w.cell? ⟨g, i * 2 + 1, none⟩ = some (.bool ps[i].sk) ∧ g < w.heap.size := by
  obtain ⟨A, n', c', hv, _, _, _, _, hh⟩ := h.slice
  injection hv with e1 e2 e3
  subst e1
  obtain ⟨b, o, hA, hb, hc⟩ := hh.at hi
  injection hA with hA
  injection hA with h1 h2
  subst h1; subst h2
  have c0 := hc 0 _ rfl
  have c1 := hc 1 _ rfl
  refine ⟨?_, ?_, hb⟩
  · rw [show 0 + (i * kPl.size + 0) = i * 2 by show 0 + (i * 2 + 0) = _; omega] at c0; exact c0
  · rw [show 0 + (i * kPl.size + 1) = i * 2 + 1 by show 0 + (i * 2 + 1) = _; omega] at c1; exact c1
theorem tells_at (op : Int) (w : World) {r : Bool} (hr : tellsO op = r) : Calls Try.prog 21 #[.int .i64 op] w fun e w' => e = .returned (.bool r) ∧ w = w' := by
  subst hr
  by_cases h5 : op = 5
  · subst h5
    go_enter Try.func21, Try.ntmps21
    go_wp2_with fail
    go_ret
    exact ⟨rfl, rfl⟩
  by_cases h6 : op = 6
  · subst h6
    go_enter Try.func21, Try.ntmps21
    go_wp2_with fail
    go_ret
    exact ⟨rfl, rfl⟩
  have e : tellsO op = false := by simp [tellsO, h5, h6]
  rw [e]
  have q5 := int_ne h5
  have q6 := int_ne h6
  go_enter Try.func21, Try.ntmps21
  go_wp2_with fail
  go_ret
  exact ⟨rfl, rfl⟩
/-- what the front's readers answer from here on -/
structure FrC (w : World) (p g d : Nat) (nmv sk rt rk : Bool) (a b : ByteArray) : Prop where
  T : ∀ w9, Below w.heap.size w w9 → Calls Try.prog 22 #[.pointer (some ⟨p, 0, none⟩), .string a] w9 fun e w' => e = .returned (.bool rt) ∧ w9 = w'
  D : ∀ w9, Below w.heap.size w w9 → Calls Try.prog 18 #[.pointer (some ⟨p, 0, none⟩)] w9 fun e w' => e = .returned (.int .i64 d) ∧ w9 = w'
  H : ∀ w9, Below w.heap.size w w9 → Calls Try.prog 23 #[.pointer (some ⟨p, 0, none⟩)] w9 fun e w' => e = .returned (.pointer (some ⟨g, d * 2, none⟩)) ∧ ∃ j, w' = w9.drewN j
  S : ∀ w9, Below w.heap.size w w9 → Calls Try.prog 25 #[.pointer (some ⟨g, d * 2, none⟩), .string b] w9 fun e w' => e = .returned (.bool rk) ∧ Below w9.heap.size w9 w'
  K : ∀ w9, Below w.heap.size w w9 → w9.cell? ⟨g, d * 2 + 1, none⟩ = some (.bool sk)
theorem lastP_at {P : List (List In)} {d : Nat} (h : P.length = d + 1) : lastP P = P[d]'(by omega) := by
  rw [lastP]
  exact getLastD_at (s := P) (d := d) (by omega) h
theorem frC_of {w : World} {B p k : Nat} {P : List (List In)} {nm : Option (List (List UInt8))} (h : FrIs w B p k P nm) (hk : k ≤ 1000) (a b : ByteArray) (hb : b.size ≤ maxLen) :
    ∃ g d, P.length = d + 1 ∧ d ≤ 8 ∧ FrC w p g d nm.isSome (skB (lastP P)) (decide (attrN nm a.toList 0 = 0)) (hasK (lastP P) b.toList) a b := by
  obtain ⟨g, c, d, ps, A, n, c', td, hBp, hPl, hd, hp, O, T, hpl, hnd, hat, htd, htn, hnk⟩ := h
  refine ⟨g, d, hPl, hd, ?_⟩
  have hpw : p < w.heap.size := heap_lt hp
  have c0 := cell_of_row w p 0 _ _ (0, 0) hp
  have c1 := cell_of_row w p 1 _ _ (0, 0) hp
  have c2 := cell_of_row w p 2 _ _ (0, 0) hp
  have cc0 : w.cell? ⟨p, 0, none⟩ = some (.slice (some ⟨g, 0, none⟩) (d + 1) c) := c0
  have cc1 : w.cell? ⟨p, 1, none⟩ = some (.bool nm.isSome) := c1
  have cc2 : w.cell? ⟨p, 2, none⟩ = some (.slice A n c') := c2
  obtain ⟨k0, k1, hg⟩ := place_cells O (i := d) (by omega)
  obtain ⟨hm, hsk, s, M⟩ := hat d (by omega) (by omega)
  rw [lastP_at hPl]
  have MW := M.lt
  obtain ⟨A', n', c9, hv, _, _, _, _, TH⟩ := T.slice
  injection hv with e1 e2 e3
  subst e1; subst e2; subst e3
  have hr : decide (attrN nm a.toList 0 = 0) = true ↔ nm.isSome = true ∧ n < 8 ∧ a ∉ td := by
    rw [decide_eq_true_iff]
    cases nm with
    | none => simp [attrN]
    | some ns =>
      have htd : td.map (·.toList) = ns := htd
      have hl : ns.length = n := by rw [← htd, List.length_map, htn]
      have hin : a.toList ∈ ns ↔ a ∈ td := by
        rw [← htd, List.mem_map]
        exact ⟨fun ⟨x, hx, e⟩ => toList_inj e ▸ hx, fun h => ⟨a, h, rfl⟩⟩
      rw [attrN_some]
      constructor
      · intro h
        split at h
        · cases h
        · rename_i hno
          exact ⟨rfl, by omega, fun e => hno (.inl (hin.2 e))⟩
      · rintro ⟨_, h8, hn⟩
        rw [if_neg]
        rintro (e | e)
        · exact hn (hin.1 e)
        · omega
  refine ⟨fun w9 h9 => ?_, fun w9 h9 => ?_, fun w9 h9 => ?_, fun w9 h9 => ?_, fun w9 h9 => ?_⟩
  · exact mayTell_any p n c' A nm.isSome td a w9 hr ((h9.cell (p := ⟨p, 1, none⟩) hpw).trans cc1) ((h9.cell (p := ⟨p, 2, none⟩) hpw).trans cc2) htn (by omega) (TH.on h9)
  · exact depth_any p d c _ w9 ((h9.cell (p := ⟨p, 0, none⟩) hpw).trans cc0) (by omega)
  · exact here_any p g d c w9 ((h9.cell (p := ⟨p, 0, none⟩) hpw).trans cc0) (by omega)
  · refine has_any g (d * 2) ps[d].m k s (keysF P[d]) b w9 ((h9.cell (p := ⟨g, d * 2, none⟩) hg).trans k0) (M.below h9 MW) hb ?_
    rfl
  · rw [← hsk]
    exact (h9.cell (p := ⟨g, d * 2 + 1, none⟩) hg).trans k1
/-- the first error, by what the readers answer -/
def codeF (bm bt rt sk kb rk : Bool) (op : Int) (d : Nat) : Nat :=
  if bm = false then 7 else if bt = true then (if rt = true then 0 else 9) else if op = 2 then (if d = 0 then 8 else 0) else if sk = true then 11 else if (kb && rk) = true then 10 else if op = 1 ∧ d = 8 then 12 else 0
theorem wrong_code {P : List (List In)} {nm : Option (List (List UInt8))} {d : Nat} (hP : P.length = d + 1) (hd : d ≤ 8) (x : In) :
    wrongV P nm x = codeF (mayI x) (tellsO x.op) (decide (attrN nm x.a.toList 0 = 0)) (skB (lastP P)) (keyedB x) (hasK (lastP P) x.b.toList) x.op d := by
  have e1 : attrN nm x.a.toList 0 = if decide (attrN nm x.a.toList 0 = 0) = true then 0 else 9 := by
    cases nm with
    | none => rfl
    | some ns =>
      rw [attrN_some]
      split <;> simp
  have e2 : (makesO x.op && !x.b.toList.isEmpty && (lastP P).any (keyB x)) = (keyedB x && hasK (lastP P) x.b.toList) := by
    unfold keyedB hasK keyB
    cases makesO x.op <;> cases x.b.toList.isEmpty <;> simp
  unfold wrongV codeF
  rw [e2]
  have e3 : (P.length ≤ 1) = (d = 0) := by simp only [eq_iff_iff]; omega
  have e4 : (9 ≤ P.length) = (d = 8) := by simp only [eq_iff_iff]; omega
  simp only [e3, e4]
  rw [show ((lastP P).any fun y => decide (y.op = 7)) = skB (lastP P) from rfl]
  split
  · rfl
  split
  · exact e1
  rfl
theorem un_drew {w w' : World} (h : Below w.drew.heap.size w.drew w') : Below w.heap.size w w' := ((Below.refl w.heap.size w).drew).trans h
set_option maxRecDepth 100000 in
set_option maxHeartbeats 4000000 in
theorem fault_any {w : World} {B p k : Nat} {P : List (List In)} {nm : Option (List (List UInt8))} (h : FrIs w B p k P nm) (hk : k ≤ 1000) (i : In) (ha : i.a.size ≤ 300) (hb : i.b.size ≤ 300) :
    Calls Try.prog 16 #[.pointer (some ⟨p, 0, none⟩), .agg #[.int .i64 i.op, .string i.a, .string i.b]] w fun e w' => e = .returned (errV (wrongV P nm i : Nat)) ∧ Below w.heap.size w w' := by
  obtain ⟨op, a, b⟩ := i
  have ha : a.size ≤ 300 := ha
  have hb : b.size ≤ 300 := hb
  obtain ⟨g, d, hP, hd, C⟩ := frC_of h hk a b (by unfold maxLen; omega)
  have hw := wrong_code (nm := nm) hP hd ⟨op, a, b⟩
  simp only at hw
  have HM : Hid (∀ w9, Calls Try.prog 20 #[.agg #[.int .i64 op, .string a, .string b]] w9 fun e w' => e = .returned (.bool (mayI ⟨op, a, b⟩)) ∧ Below w9.heap.size w9 w') := Lib.hid (fun w9 => imay_c ⟨op, a, b⟩ w9 (Nat.le_trans ha (by omega)) (Nat.le_trans hb (by omega)))
  have HL : Hid (∀ w9, Calls Try.prog 21 #[.int .i64 op] w9 fun e w' => e = .returned (.bool (tellsO op)) ∧ w9 = w') := Lib.hid (fun w9 => tells_at op w9 rfl)
  have HK : Hid (∀ w9, Calls Try.prog 24 #[.agg #[.int .i64 op, .string a, .string b]] w9 fun e w' => e = .returned (.bool (keyedB ⟨op, a, b⟩)) ∧ Below w9.heap.size w9 w') := Lib.hid (fun w9 => keyed_any op a b w9)
  have HT : Hid (tellsO op = true → (op == 2) = false ∧ (op != 2) = true ∧ (op == 1) = false ∧ keyedB ⟨op, a, b⟩ = false) := Lib.hid (fun e => by
    simp only [tellsO, decide_eq_true_eq] at e
    refine ⟨int_ne (by omega), by rw [bne, int_ne (by omega)]; rfl, int_ne (by omega), ?_⟩
    simp only [keyedB, makesO]
    rw [decide_eq_false (by omega)]
    rfl)
  have HK2 : Hid (op = 2 → keyedB ⟨op, a, b⟩ = false) := Lib.hid (fun e => by subst e; rfl)
  rw [hw]
  clear hw h ha hb hk
  have CC := Lib.hid C
  clear C
  generalize mayI ⟨op, a, b⟩ = bm at HM ⊢
  generalize tellsO op = bt at HL HT ⊢
  generalize decide (attrN nm a.toList 0 = 0) = rt at CC ⊢
  generalize skB (lastP P) = sk at CC ⊢
  generalize hasK (lastP P) b.toList = rk at CC ⊢
  generalize keyedB ⟨op, a, b⟩ = kb at HK HT HK2 ⊢
  generalize nm.isSome = nmv at CC
  clear hP nm P
  obtain ⟨cd, hcd⟩ : ∃ x, codeF bm bt rt sk kb rk op d = x := ⟨_, rfl⟩
  rw [hcd]
  have HC := Lib.hid hcd
  clear hcd
  have B1 : Hid (Below w.heap.size w (w.alloc (.cells #[.int .i64 op, .string a, .string b] 38))) := Lib.hid ((Below.refl _ _).alloc (Nat.le_refl _) _)
  have N1 : Hid (XB (w.alloc (.cells #[.int .i64 op, .string a, .string b] 38)) w.heap.size ⟨op, a, b⟩) := Lib.hid (XB.new w ⟨op, a, b⟩)
  go_enter Try.func16, Try.ntmps16
  go_upto_region 1 with fail
  generalize w.alloc (.cells #[.int .i64 op, .string a, .string b] 38) = W at B1 N1 ⊢
  have hxw : w.heap.size ≤ w.heap.size := Nat.le_refl _
  obtain ⟨x, hx⟩ : ∃ x, x = w.heap.size := ⟨_, rfl⟩
  have HX := Lib.hid hx
  rw [← hx] at N1 ⊢
  clear hx hxw
  have c0 := N1.out.c0; have c1 := N1.out.c1; have c2 := N1.out.c2
  simp only at c0 c1 c2
  cases bm with
  | false =>
    obtain rfl : cd = 7 := by rw [← HC.out]; rfl
    go_wp2_with fail
    refine (HM.out _).mono ?_
    rintro e w1 ⟨rfl, b1⟩
    go_wp2_with fail
    go_ret
    exact ⟨rfl, B1.out.trans (b1.mono B1.out.size)⟩
  | true =>
  go_wp2_with fail
  refine (HM.out _).mono ?_
  rintro e w1 ⟨rfl, b1⟩
  have B2 := Lib.hid (B1.out.trans (b1.mono B1.out.size))
  have N2 := Lib.hid (N1.out.below b1 N1.out.lt)
  clear b1 c0 c1 c2 N1 B1 HM
  have c0 := N2.out.c0; have c1 := N2.out.c1; have c2 := N2.out.c2
  simp only at c0 c1 c2
  have SKEEP : Hid (∀ wz, Below w1.heap.size w1 wz → wz.cell? ⟨x, 0, none⟩ = some (.int .i64 op) ∧ wz.cell? ⟨x, 1, none⟩ = some (.string a) ∧ wz.cell? ⟨x, 2, none⟩ = some (.string b)) := Lib.hid (fun wz h => by
    have N := N2.out.below h N2.out.lt
    exact ⟨N.c0, N.c1, N.c2⟩)
  have BW : Hid (Below w1.heap.size w1 w1) := Lib.hid (Below.refl _ _)
  have BT : Hid (∀ wz, Below w1.heap.size w1 wz → Below w.heap.size w wz) := Lib.hid (fun wz h => B2.out.trans (h.mono B2.out.size))
  have CT : Hid (∀ wz, Below w1.heap.size w1 wz → Calls Try.prog 22 #[.pointer (some ⟨p, 0, none⟩), .string a] wz fun e w' => e = .returned (.bool rt) ∧ wz = w') := Lib.hid (fun wz h => CC.out.T wz (BT.out wz h))
  have CD : Hid (∀ wz, Below w1.heap.size w1 wz → Calls Try.prog 18 #[.pointer (some ⟨p, 0, none⟩)] wz fun e w' => e = .returned (.int .i64 d) ∧ wz = w') := Lib.hid (fun wz h => CC.out.D wz (BT.out wz h))
  have CH : Hid (∀ wz, Below w1.heap.size w1 wz → Calls Try.prog 23 #[.pointer (some ⟨p, 0, none⟩)] wz fun e w' => e = .returned (.pointer (some ⟨g, d * 2, none⟩)) ∧ ∃ j, w' = wz.drewN j) := Lib.hid (fun wz h => CC.out.H wz (BT.out wz h))
  have CHS : Hid (∀ wz, Below w1.heap.size w1 wz → Calls Try.prog 25 #[.pointer (some ⟨g, d * 2, none⟩), .string b] wz fun e w' => e = .returned (.bool rk) ∧ Below wz.heap.size wz w') := Lib.hid (fun wz h => CC.out.S wz (BT.out wz h))
  have CKY : Hid (∀ wz, Below w1.heap.size w1 wz → Calls Try.prog 24 #[.agg #[.int .i64 op, .string a, .string b]] wz fun e w' => e = .returned (.bool kb) ∧ Below wz.heap.size wz w') := Lib.hid (fun wz _ => HK.out wz)
  have KS : Hid (∀ wz, Below w1.heap.size w1 wz → wz.cell? ⟨g, d * 2 + 1, none⟩ = some (.bool sk)) := Lib.hid (fun wz h => CC.out.K wz (BT.out wz h))
  clear BT CC HK N2
  cases bt with
  | true =>
    obtain ⟨q2, q2n, q1, rfl⟩ := HT.out rfl
    cases rt with
    | false =>
      obtain rfl : cd = 9 := by rw [← HC.out]; rfl
      go_wp2_with fail
      refine (HL.out _).mono ?_
      rintro e w' ⟨rfl, rfl⟩
      go_wp2_with fail
      refine (CT.out _ BW.out).mono ?_
      rintro e w' ⟨rfl, rfl⟩
      go_wp2_with fail
      go_ret
      exact ⟨rfl, B2.out⟩
    | true =>
      obtain rfl : cd = 0 := by rw [← HC.out]; rfl
      go_wp2_with fail
      refine (HL.out _).mono ?_
      rintro e w' ⟨rfl, rfl⟩
      go_wp2_with fail
      refine (CT.out _ BW.out).mono ?_
      rintro e w' ⟨rfl, rfl⟩
      go_wp2_with fail
      refine (HL.out _).mono ?_
      rintro e w' ⟨rfl, rfl⟩
      go_upto_region 9 with fail
      refine wp_region_held_drew (S := fun w' => w'.cell? ⟨x, 0, none⟩ = some (.int .i64 op) ∧ w'.cell? ⟨x, 1, none⟩ = some (.string a) ∧ w'.cell? ⟨x, 2, none⟩ = some (.string b)) (by kernel_rfl) (SKEEP.out _ (bl_drew BW.out)) (fun hHeld => ?_)
      refine take_at (d := 51) (i := 0) (v := ?v1) rfl rfl (by kernel_rfl) (by kernel_rfl) (by kernel_rfl) (fun _ _ _ h => h) (Or.inl ⟨by rfl, ?hy1⟩) (by assumption) ?hr1
      case hy1 => (intro w' hSw; (try dsimp only at hSw); go_simp; try with_reducible rfl)
      (try simp only [Act.put, List.setIfInBounds_toArray, List.set_cons_zero, List.set_cons_succ])
      refine wpAnyH_ready (rs := [1]) (by kernel_rfl) (by simp) ?_
      refine AllReadyH.cons rfl (fun K hK => ?_) ?_
      · rw [if_pos (by rfl)]
        go_simp
        go_at_call 24
        refine (CKY.out _ (by first | exact BW.out | exact bl_drew BW.out)).mono ?_
        rintro e w5 ⟨rfl, b5⟩
        have BW : Hid (Below w1.heap.size w1 w5) := Lib.hid (by first | exact bl_call b5 BW.out | exact bl_call b5 (bl_drew BW.out))
        clear b5
        refine hK.out _ _ ?_ (fun hHeld => ?_)
        · exact SKEEP.out _ BW.out
        clear hK K
        (try simp only [Act.put, List.setIfInBounds_toArray, List.set_cons_zero, List.set_cons_succ])
        refine take_at (d := 53) (i := 2) (v := ?v2) rfl rfl (by kernel_rfl) (by kernel_rfl) (by kernel_rfl) (fun _ _ _ h => h) (Or.inl ⟨by rfl, ?hy2⟩) (by assumption) ?hr2
        case hy2 => (intro w' hSw; (try dsimp only at hSw); go_simp; try with_reducible rfl)
        (try simp only [Act.put, List.setIfInBounds_toArray, List.set_cons_zero, List.set_cons_succ])
        refine take_at (d := 54) (i := 3) (v := undef) rfl rfl (by kernel_rfl) (by kernel_rfl) (by kernel_rfl) (fun _ _ _ h => h) (Or.inr ⟨by rfl, rfl⟩) (by assumption) ?_
        (try simp only [Act.put, List.setIfInBounds_toArray, List.set_cons_zero, List.set_cons_succ])
        refine take_at (d := 55) (i := 4) (v := undef) rfl rfl (by kernel_rfl) (by kernel_rfl) (by kernel_rfl) (fun _ _ _ h => h) (Or.inr ⟨by rfl, rfl⟩) (by assumption) ?_
        (try simp only [Act.put, List.setIfInBounds_toArray, List.set_cons_zero, List.set_cons_succ])
        refine take_at (d := 56) (i := 5) (v := undef) rfl rfl (by kernel_rfl) (by kernel_rfl) (by kernel_rfl) (fun _ _ _ h => h) (Or.inr ⟨by rfl, rfl⟩) (by assumption) ?_
        (try simp only [Act.put, List.setIfInBounds_toArray, List.set_cons_zero, List.set_cons_succ])
        refine take_at (d := 57) (i := 6) (v := undef) rfl rfl (by kernel_rfl) (by kernel_rfl) (by kernel_rfl) (fun _ _ _ h => h) (Or.inr ⟨by rfl, rfl⟩) (by assumption) ?_
        (try simp only [Act.put, List.setIfInBounds_toArray, List.set_cons_zero, List.set_cons_succ])
        refine take_at (d := 58) (i := 7) (v := undef) rfl rfl (by kernel_rfl) (by kernel_rfl) (by kernel_rfl) (fun _ _ _ h => h) (Or.inr ⟨by rfl, rfl⟩) (by assumption) ?_
        (try simp only [Act.put, List.setIfInBounds_toArray, List.set_cons_zero, List.set_cons_succ])
        refine take_at (d := 59) (i := 8) (v := ?v8) rfl rfl (by kernel_rfl) (by kernel_rfl) (by kernel_rfl) (fun _ _ _ h => h) (Or.inl ⟨by rfl, ?hy8⟩) (by assumption) ?hr8
        case hy8 => (intro w' hSw; (try dsimp only at hSw); go_simp; try with_reducible rfl)
        (try simp only [Act.put, List.setIfInBounds_toArray, List.set_cons_zero, List.set_cons_succ])
        refine take_at (d := 50) (i := 9) (v := ?v9) rfl rfl (by kernel_rfl) (by kernel_rfl) (by kernel_rfl) (fun _ _ _ h => h) (Or.inl ⟨by rfl, ?hy9⟩) (by assumption) ?hr9
        case hy9 => (intro w' hSw; (try dsimp only at hSw); go_simp; try with_reducible rfl)
        (try simp only [Act.put, List.setIfInBounds_toArray, List.set_cons_zero, List.set_cons_succ])
        refine wpAnyH_done (by kernel_rfl) ?_ _
        (try simp only [Act.put, List.getElem_toArray, List.getElem_cons_succ, List.getElem_cons_zero, List.setIfInBounds_toArray, List.set_cons_zero, List.set_cons_succ])
        go_wp2_with fail
        go_ret
        exact ⟨rfl, B2.out.trans (BW.out.mono B2.out.size)⟩
      exact AllReadyH.nil
  | false =>
    clear HT
    by_cases h2 : op = 2
    · have q2 : (op == 2) = true := int_eq h2
      have q2n : (op != 2) = false := by rw [bne, q2]; rfl
      have q1 : (op == 1) = false := int_ne (by omega)
      obtain rfl := HK2.out h2
      by_cases h0 : d = 0
      · subst h0
        obtain rfl : cd = 8 := by rw [← HC.out]; simp [codeF, h2]
        clear HC h2
        go_wp2_with fail
        refine (HL.out _).mono ?_
        rintro e w' ⟨rfl, rfl⟩
        go_wp2_with fail
        refine (CD.out _ BW.out).mono ?_
        rintro e w' ⟨rfl, rfl⟩
        go_wp2_with fail
        go_ret
        exact ⟨rfl, B2.out⟩
      · have q0 : ((d : Int) == 0) = false := int_ne (by omega)
        obtain rfl : cd = 0 := by rw [← HC.out]; simp [codeF, h2, h0]
        clear HC h2 h0
        go_wp2_with fail
        refine (HL.out _).mono ?_
        rintro e w' ⟨rfl, rfl⟩
        go_wp2_with fail
        refine (CD.out _ BW.out).mono ?_
        rintro e w' ⟨rfl, rfl⟩
        go_upto_region 9 with fail
        refine wp_region_held_drew (S := fun w' => w'.cell? ⟨x, 0, none⟩ = some (.int .i64 op) ∧ w'.cell? ⟨x, 1, none⟩ = some (.string a) ∧ w'.cell? ⟨x, 2, none⟩ = some (.string b)) (by kernel_rfl) (SKEEP.out _ (bl_drew BW.out)) (fun hHeld => ?_)
        refine take_at (d := 51) (i := 0) (v := ?v10) rfl rfl (by kernel_rfl) (by kernel_rfl) (by kernel_rfl) (fun _ _ _ h => h) (Or.inl ⟨by rfl, ?hy10⟩) (by assumption) ?hr10
        case hy10 => (intro w' hSw; (try dsimp only at hSw); go_simp; try with_reducible rfl)
        (try simp only [Act.put, List.setIfInBounds_toArray, List.set_cons_zero, List.set_cons_succ])
        refine wpAnyH_ready (rs := [1]) (by kernel_rfl) (by simp) ?_
        refine AllReadyH.cons rfl (fun K hK => ?_) ?_
        · rw [if_pos (by rfl)]
          go_simp
          go_at_call 24
          refine (CKY.out _ (by first | exact BW.out | exact bl_drew BW.out)).mono ?_
          rintro e w5 ⟨rfl, b5⟩
          have BW : Hid (Below w1.heap.size w1 w5) := Lib.hid (by first | exact bl_call b5 BW.out | exact bl_call b5 (bl_drew BW.out))
          clear b5
          refine hK.out _ _ ?_ (fun hHeld => ?_)
          · exact SKEEP.out _ BW.out
          clear hK K
          (try simp only [Act.put, List.setIfInBounds_toArray, List.set_cons_zero, List.set_cons_succ])
          refine take_at (d := 53) (i := 2) (v := ?v11) rfl rfl (by kernel_rfl) (by kernel_rfl) (by kernel_rfl) (fun _ _ _ h => h) (Or.inl ⟨by rfl, ?hy11⟩) (by assumption) ?hr11
          case hy11 => (intro w' hSw; (try dsimp only at hSw); go_simp; try with_reducible rfl)
          (try simp only [Act.put, List.setIfInBounds_toArray, List.set_cons_zero, List.set_cons_succ])
          refine take_at (d := 54) (i := 3) (v := undef) rfl rfl (by kernel_rfl) (by kernel_rfl) (by kernel_rfl) (fun _ _ _ h => h) (Or.inr ⟨by rfl, rfl⟩) (by assumption) ?_
          (try simp only [Act.put, List.setIfInBounds_toArray, List.set_cons_zero, List.set_cons_succ])
          refine take_at (d := 55) (i := 4) (v := undef) rfl rfl (by kernel_rfl) (by kernel_rfl) (by kernel_rfl) (fun _ _ _ h => h) (Or.inr ⟨by rfl, rfl⟩) (by assumption) ?_
          (try simp only [Act.put, List.setIfInBounds_toArray, List.set_cons_zero, List.set_cons_succ])
          refine take_at (d := 56) (i := 5) (v := undef) rfl rfl (by kernel_rfl) (by kernel_rfl) (by kernel_rfl) (fun _ _ _ h => h) (Or.inr ⟨by rfl, rfl⟩) (by assumption) ?_
          (try simp only [Act.put, List.setIfInBounds_toArray, List.set_cons_zero, List.set_cons_succ])
          refine take_at (d := 57) (i := 6) (v := undef) rfl rfl (by kernel_rfl) (by kernel_rfl) (by kernel_rfl) (fun _ _ _ h => h) (Or.inr ⟨by rfl, rfl⟩) (by assumption) ?_
          (try simp only [Act.put, List.setIfInBounds_toArray, List.set_cons_zero, List.set_cons_succ])
          refine take_at (d := 58) (i := 7) (v := undef) rfl rfl (by kernel_rfl) (by kernel_rfl) (by kernel_rfl) (fun _ _ _ h => h) (Or.inr ⟨by rfl, rfl⟩) (by assumption) ?_
          (try simp only [Act.put, List.setIfInBounds_toArray, List.set_cons_zero, List.set_cons_succ])
          refine take_at (d := 59) (i := 8) (v := ?v17) rfl rfl (by kernel_rfl) (by kernel_rfl) (by kernel_rfl) (fun _ _ _ h => h) (Or.inl ⟨by rfl, ?hy17⟩) (by assumption) ?hr17
          case hy17 => (intro w' hSw; (try dsimp only at hSw); go_simp; try with_reducible rfl)
          (try simp only [Act.put, List.setIfInBounds_toArray, List.set_cons_zero, List.set_cons_succ])
          refine take_at (d := 50) (i := 9) (v := ?v18) rfl rfl (by kernel_rfl) (by kernel_rfl) (by kernel_rfl) (fun _ _ _ h => h) (Or.inl ⟨by rfl, ?hy18⟩) (by assumption) ?hr18
          case hy18 => (intro w' hSw; (try dsimp only at hSw); go_simp; try with_reducible rfl)
          (try simp only [Act.put, List.setIfInBounds_toArray, List.set_cons_zero, List.set_cons_succ])
          refine wpAnyH_done (by kernel_rfl) ?_ _
          (try simp only [Act.put, List.getElem_toArray, List.getElem_cons_succ, List.getElem_cons_zero, List.setIfInBounds_toArray, List.set_cons_zero, List.set_cons_succ])
          go_wp2_with fail
          go_ret
          exact ⟨rfl, B2.out.trans (BW.out.mono B2.out.size)⟩
        exact AllReadyH.nil
    · have q2 : (op == 2) = false := int_ne h2
      have q2n : (op != 2) = true := by rw [bne, q2]; rfl
      have ks := KS.out _ BW.out
      cases sk with
      | true =>
        obtain rfl : cd = 11 := by rw [← HC.out]; simp [codeF, h2]
        clear HC h2
        go_wp2_with fail
        refine (HL.out _).mono ?_
        rintro e w' ⟨rfl, rfl⟩
        go_wp2_with fail
        refine (HL.out _).mono ?_
        rintro e w' ⟨rfl, rfl⟩
        go_wp2_with fail
        refine (CH.out _ BW.out).mono ?_
        rintro e w5 ⟨rfl, j5, hw5⟩
        have BW : Hid (Below w1.heap.size w1 w5) := Lib.hid (hw5 ▸ bl_drewN BW.out _)
        have ks := KS.out _ BW.out
        clear hw5
        go_wp2_with fail
        go_ret
        exact ⟨rfl, B2.out.trans (BW.out.mono B2.out.size)⟩
      | false =>
        obtain ⟨z1, hz1⟩ : ∃ z, (op == 1) = z := ⟨_, rfl⟩
        obtain ⟨z8, hz8⟩ : ∃ z, ((d : Int) == 8) = z := ⟨_, rfl⟩
        have HC2 : Hid (cd = if (kb && rk) = true then 10 else if (z1 && z8) = true then 12 else 0) := Lib.hid (by
          rw [← HC.out, ← hz1, ← hz8]
          have e : (op = 1 ∧ d = 8) = (((op == 1) && ((d : Int) == 8)) = true) := by
            simp only [Bool.and_eq_true, beq_iff_eq, eq_iff_iff]
            omega
          simp only [codeF, h2, e]
          rfl)
        clear HC h2
        go_wp2_with fail
        refine (HL.out _).mono ?_
        rintro e w' ⟨rfl, rfl⟩
        go_wp2_with fail
        refine (HL.out _).mono ?_
        rintro e w' ⟨rfl, rfl⟩
        go_wp2_with fail
        refine (CH.out _ BW.out).mono ?_
        rintro e w5 ⟨rfl, j5, hw5⟩
        have BW : Hid (Below w1.heap.size w1 w5) := Lib.hid (hw5 ▸ bl_drewN BW.out _)
        have ks := KS.out _ BW.out
        clear hw5
        go_upto_region 9 with fail
        clear ks
        cases kb with
        | false =>
          cases z1 with
          | false =>
            obtain rfl : cd = 0 := by rw [HC2.out]; rfl
            refine wp_region_held_drew (S := fun w' => w'.cell? ⟨x, 0, none⟩ = some (.int .i64 op) ∧ w'.cell? ⟨x, 1, none⟩ = some (.string a) ∧ w'.cell? ⟨x, 2, none⟩ = some (.string b)) (by kernel_rfl) (SKEEP.out _ (bl_drew BW.out)) (fun hHeld => ?_)
            refine take_at (d := 51) (i := 0) (v := ?v19) rfl rfl (by kernel_rfl) (by kernel_rfl) (by kernel_rfl) (fun _ _ _ h => h) (Or.inl ⟨by rfl, ?hy19⟩) (by assumption) ?hr19
            case hy19 => (intro w' hSw; (try dsimp only at hSw); go_simp; try with_reducible rfl)
            (try simp only [Act.put, List.setIfInBounds_toArray, List.set_cons_zero, List.set_cons_succ])
            refine wpAnyH_ready (rs := [1]) (by kernel_rfl) (by simp) ?_
            refine AllReadyH.cons rfl (fun K hK => ?_) ?_
            · rw [if_pos (by rfl)]
              go_simp
              go_at_call 24
              refine (CKY.out _ (by first | exact BW.out | exact bl_drew BW.out)).mono ?_
              rintro e w5 ⟨rfl, b5⟩
              have BW : Hid (Below w1.heap.size w1 w5) := Lib.hid (by first | exact bl_call b5 BW.out | exact bl_call b5 (bl_drew BW.out))
              clear b5
              refine hK.out _ _ ?_ (fun hHeld => ?_)
              · exact SKEEP.out _ BW.out
              clear hK K
              (try simp only [Act.put, List.setIfInBounds_toArray, List.set_cons_zero, List.set_cons_succ])
              refine take_at (d := 53) (i := 2) (v := ?v20) rfl rfl (by kernel_rfl) (by kernel_rfl) (by kernel_rfl) (fun _ _ _ h => h) (Or.inl ⟨by rfl, ?hy20⟩) (by assumption) ?hr20
              case hy20 => (intro w' hSw; (try dsimp only at hSw); go_simp; try with_reducible rfl)
              (try simp only [Act.put, List.setIfInBounds_toArray, List.set_cons_zero, List.set_cons_succ])
              refine take_at (d := 54) (i := 3) (v := undef) rfl rfl (by kernel_rfl) (by kernel_rfl) (by kernel_rfl) (fun _ _ _ h => h) (Or.inr ⟨by rfl, rfl⟩) (by assumption) ?_
              (try simp only [Act.put, List.setIfInBounds_toArray, List.set_cons_zero, List.set_cons_succ])
              refine take_at (d := 55) (i := 4) (v := undef) rfl rfl (by kernel_rfl) (by kernel_rfl) (by kernel_rfl) (fun _ _ _ h => h) (Or.inr ⟨by rfl, rfl⟩) (by assumption) ?_
              (try simp only [Act.put, List.setIfInBounds_toArray, List.set_cons_zero, List.set_cons_succ])
              refine take_at (d := 56) (i := 5) (v := undef) rfl rfl (by kernel_rfl) (by kernel_rfl) (by kernel_rfl) (fun _ _ _ h => h) (Or.inr ⟨by rfl, rfl⟩) (by assumption) ?_
              (try simp only [Act.put, List.setIfInBounds_toArray, List.set_cons_zero, List.set_cons_succ])
              refine take_at (d := 57) (i := 6) (v := undef) rfl rfl (by kernel_rfl) (by kernel_rfl) (by kernel_rfl) (fun _ _ _ h => h) (Or.inr ⟨by rfl, rfl⟩) (by assumption) ?_
              (try simp only [Act.put, List.setIfInBounds_toArray, List.set_cons_zero, List.set_cons_succ])
              refine take_at (d := 58) (i := 7) (v := undef) rfl rfl (by kernel_rfl) (by kernel_rfl) (by kernel_rfl) (fun _ _ _ h => h) (Or.inr ⟨by rfl, rfl⟩) (by assumption) ?_
              (try simp only [Act.put, List.setIfInBounds_toArray, List.set_cons_zero, List.set_cons_succ])
              refine take_at (d := 59) (i := 8) (v := ?v26) rfl rfl (by kernel_rfl) (by kernel_rfl) (by kernel_rfl) (fun _ _ _ h => h) (Or.inl ⟨by rfl, ?hy26⟩) (by assumption) ?hr26
              case hy26 => (intro w' hSw; (try dsimp only at hSw); go_simp; try with_reducible rfl)
              (try simp only [Act.put, List.setIfInBounds_toArray, List.set_cons_zero, List.set_cons_succ])
              refine take_at (d := 50) (i := 9) (v := ?v27) rfl rfl (by kernel_rfl) (by kernel_rfl) (by kernel_rfl) (fun _ _ _ h => h) (Or.inl ⟨by rfl, ?hy27⟩) (by assumption) ?hr27
              case hy27 => (intro w' hSw; (try dsimp only at hSw); go_simp; try with_reducible rfl)
              (try simp only [Act.put, List.setIfInBounds_toArray, List.set_cons_zero, List.set_cons_succ])
              refine wpAnyH_done (by kernel_rfl) ?_ _
              (try simp only [Act.put, List.getElem_toArray, List.getElem_cons_succ, List.getElem_cons_zero, List.setIfInBounds_toArray, List.set_cons_zero, List.set_cons_succ])
              go_wp2_with fail
              go_ret
              exact ⟨rfl, B2.out.trans (BW.out.mono B2.out.size)⟩
            exact AllReadyH.nil
          | true =>
            cases z8 with
            | false =>
              obtain rfl : cd = 0 := by rw [HC2.out]; rfl
              refine wp_region_held_drew (S := fun w' => w'.cell? ⟨x, 0, none⟩ = some (.int .i64 op) ∧ w'.cell? ⟨x, 1, none⟩ = some (.string a) ∧ w'.cell? ⟨x, 2, none⟩ = some (.string b)) (by kernel_rfl) (SKEEP.out _ (bl_drew BW.out)) (fun hHeld => ?_)
              refine take_at (d := 51) (i := 0) (v := ?v28) rfl rfl (by kernel_rfl) (by kernel_rfl) (by kernel_rfl) (fun _ _ _ h => h) (Or.inl ⟨by rfl, ?hy28⟩) (by assumption) ?hr28
              case hy28 => (intro w' hSw; (try dsimp only at hSw); go_simp; try with_reducible rfl)
              (try simp only [Act.put, List.setIfInBounds_toArray, List.set_cons_zero, List.set_cons_succ])
              refine wpAnyH_ready (rs := [1]) (by kernel_rfl) (by simp) ?_
              refine AllReadyH.cons rfl (fun K hK => ?_) ?_
              · rw [if_pos (by rfl)]
                go_simp
                go_at_call 24
                refine (CKY.out _ (by first | exact BW.out | exact bl_drew BW.out)).mono ?_
                rintro e w5 ⟨rfl, b5⟩
                have BW : Hid (Below w1.heap.size w1 w5) := Lib.hid (by first | exact bl_call b5 BW.out | exact bl_call b5 (bl_drew BW.out))
                clear b5
                refine hK.out _ _ ?_ (fun hHeld => ?_)
                · exact SKEEP.out _ BW.out
                clear hK K
                (try simp only [Act.put, List.setIfInBounds_toArray, List.set_cons_zero, List.set_cons_succ])
                refine take_at (d := 53) (i := 2) (v := ?v29) rfl rfl (by kernel_rfl) (by kernel_rfl) (by kernel_rfl) (fun _ _ _ h => h) (Or.inl ⟨by rfl, ?hy29⟩) (by assumption) ?hr29
                case hy29 => (intro w' hSw; (try dsimp only at hSw); go_simp; try with_reducible rfl)
                (try simp only [Act.put, List.setIfInBounds_toArray, List.set_cons_zero, List.set_cons_succ])
                refine take_at (d := 54) (i := 3) (v := undef) rfl rfl (by kernel_rfl) (by kernel_rfl) (by kernel_rfl) (fun _ _ _ h => h) (Or.inr ⟨by rfl, rfl⟩) (by assumption) ?_
                (try simp only [Act.put, List.setIfInBounds_toArray, List.set_cons_zero, List.set_cons_succ])
                refine take_at (d := 55) (i := 4) (v := undef) rfl rfl (by kernel_rfl) (by kernel_rfl) (by kernel_rfl) (fun _ _ _ h => h) (Or.inr ⟨by rfl, rfl⟩) (by assumption) ?_
                (try simp only [Act.put, List.setIfInBounds_toArray, List.set_cons_zero, List.set_cons_succ])
                refine take_at (d := 56) (i := 5) (v := undef) rfl rfl (by kernel_rfl) (by kernel_rfl) (by kernel_rfl) (fun _ _ _ h => h) (Or.inr ⟨by rfl, rfl⟩) (by assumption) ?_
                (try simp only [Act.put, List.setIfInBounds_toArray, List.set_cons_zero, List.set_cons_succ])
                refine take_at (d := 57) (i := 6) (v := undef) rfl rfl (by kernel_rfl) (by kernel_rfl) (by kernel_rfl) (fun _ _ _ h => h) (Or.inr ⟨by rfl, rfl⟩) (by assumption) ?_
                (try simp only [Act.put, List.setIfInBounds_toArray, List.set_cons_zero, List.set_cons_succ])
                refine take_at (d := 58) (i := 7) (v := undef) rfl rfl (by kernel_rfl) (by kernel_rfl) (by kernel_rfl) (fun _ _ _ h => h) (Or.inr ⟨by rfl, rfl⟩) (by assumption) ?_
                (try simp only [Act.put, List.setIfInBounds_toArray, List.set_cons_zero, List.set_cons_succ])
                refine take_at (d := 59) (i := 8) (v := ?v35) rfl rfl (by kernel_rfl) (by kernel_rfl) (by kernel_rfl) (fun _ _ _ h => h) (Or.inl ⟨by rfl, ?hy35⟩) (by assumption) ?hr35
                case hy35 => (intro w' hSw; (try dsimp only at hSw); go_simp; try with_reducible rfl)
                (try simp only [Act.put, List.setIfInBounds_toArray, List.set_cons_zero, List.set_cons_succ])
                refine take_at (d := 50) (i := 9) (v := ?v36) rfl rfl (by kernel_rfl) (by kernel_rfl) (by kernel_rfl) (fun _ _ _ h => h) (Or.inl ⟨by rfl, ?hy36⟩) (by assumption) ?hr36
                case hy36 => (intro w' hSw; (try dsimp only at hSw); go_simp; try with_reducible rfl)
                (try simp only [Act.put, List.setIfInBounds_toArray, List.set_cons_zero, List.set_cons_succ])
                refine wpAnyH_done (by kernel_rfl) ?_ _
                (try simp only [Act.put, List.getElem_toArray, List.getElem_cons_succ, List.getElem_cons_zero, List.setIfInBounds_toArray, List.set_cons_zero, List.set_cons_succ])
                go_wp2_with fail
                refine (CD.out _ BW.out).mono ?_
                rintro e w' ⟨rfl, rfl⟩
                go_wp2_with fail
                go_ret
                exact ⟨rfl, B2.out.trans (BW.out.mono B2.out.size)⟩
              exact AllReadyH.nil
            | true =>
              obtain rfl : cd = 12 := by rw [HC2.out]; rfl
              refine wp_region_held_drew (S := fun w' => w'.cell? ⟨x, 0, none⟩ = some (.int .i64 op) ∧ w'.cell? ⟨x, 1, none⟩ = some (.string a) ∧ w'.cell? ⟨x, 2, none⟩ = some (.string b)) (by kernel_rfl) (SKEEP.out _ (bl_drew BW.out)) (fun hHeld => ?_)
              refine take_at (d := 51) (i := 0) (v := ?v37) rfl rfl (by kernel_rfl) (by kernel_rfl) (by kernel_rfl) (fun _ _ _ h => h) (Or.inl ⟨by rfl, ?hy37⟩) (by assumption) ?hr37
              case hy37 => (intro w' hSw; (try dsimp only at hSw); go_simp; try with_reducible rfl)
              (try simp only [Act.put, List.setIfInBounds_toArray, List.set_cons_zero, List.set_cons_succ])
              refine wpAnyH_ready (rs := [1]) (by kernel_rfl) (by simp) ?_
              refine AllReadyH.cons rfl (fun K hK => ?_) ?_
              · rw [if_pos (by rfl)]
                go_simp
                go_at_call 24
                refine (CKY.out _ (by first | exact BW.out | exact bl_drew BW.out)).mono ?_
                rintro e w5 ⟨rfl, b5⟩
                have BW : Hid (Below w1.heap.size w1 w5) := Lib.hid (by first | exact bl_call b5 BW.out | exact bl_call b5 (bl_drew BW.out))
                clear b5
                refine hK.out _ _ ?_ (fun hHeld => ?_)
                · exact SKEEP.out _ BW.out
                clear hK K
                (try simp only [Act.put, List.setIfInBounds_toArray, List.set_cons_zero, List.set_cons_succ])
                refine take_at (d := 53) (i := 2) (v := ?v38) rfl rfl (by kernel_rfl) (by kernel_rfl) (by kernel_rfl) (fun _ _ _ h => h) (Or.inl ⟨by rfl, ?hy38⟩) (by assumption) ?hr38
                case hy38 => (intro w' hSw; (try dsimp only at hSw); go_simp; try with_reducible rfl)
                (try simp only [Act.put, List.setIfInBounds_toArray, List.set_cons_zero, List.set_cons_succ])
                refine take_at (d := 54) (i := 3) (v := undef) rfl rfl (by kernel_rfl) (by kernel_rfl) (by kernel_rfl) (fun _ _ _ h => h) (Or.inr ⟨by rfl, rfl⟩) (by assumption) ?_
                (try simp only [Act.put, List.setIfInBounds_toArray, List.set_cons_zero, List.set_cons_succ])
                refine take_at (d := 55) (i := 4) (v := undef) rfl rfl (by kernel_rfl) (by kernel_rfl) (by kernel_rfl) (fun _ _ _ h => h) (Or.inr ⟨by rfl, rfl⟩) (by assumption) ?_
                (try simp only [Act.put, List.setIfInBounds_toArray, List.set_cons_zero, List.set_cons_succ])
                refine take_at (d := 56) (i := 5) (v := undef) rfl rfl (by kernel_rfl) (by kernel_rfl) (by kernel_rfl) (fun _ _ _ h => h) (Or.inr ⟨by rfl, rfl⟩) (by assumption) ?_
                (try simp only [Act.put, List.setIfInBounds_toArray, List.set_cons_zero, List.set_cons_succ])
                refine take_at (d := 57) (i := 6) (v := undef) rfl rfl (by kernel_rfl) (by kernel_rfl) (by kernel_rfl) (fun _ _ _ h => h) (Or.inr ⟨by rfl, rfl⟩) (by assumption) ?_
                (try simp only [Act.put, List.setIfInBounds_toArray, List.set_cons_zero, List.set_cons_succ])
                refine take_at (d := 58) (i := 7) (v := undef) rfl rfl (by kernel_rfl) (by kernel_rfl) (by kernel_rfl) (fun _ _ _ h => h) (Or.inr ⟨by rfl, rfl⟩) (by assumption) ?_
                (try simp only [Act.put, List.setIfInBounds_toArray, List.set_cons_zero, List.set_cons_succ])
                refine take_at (d := 59) (i := 8) (v := ?v44) rfl rfl (by kernel_rfl) (by kernel_rfl) (by kernel_rfl) (fun _ _ _ h => h) (Or.inl ⟨by rfl, ?hy44⟩) (by assumption) ?hr44
                case hy44 => (intro w' hSw; (try dsimp only at hSw); go_simp; try with_reducible rfl)
                (try simp only [Act.put, List.setIfInBounds_toArray, List.set_cons_zero, List.set_cons_succ])
                refine take_at (d := 50) (i := 9) (v := ?v45) rfl rfl (by kernel_rfl) (by kernel_rfl) (by kernel_rfl) (fun _ _ _ h => h) (Or.inl ⟨by rfl, ?hy45⟩) (by assumption) ?hr45
                case hy45 => (intro w' hSw; (try dsimp only at hSw); go_simp; try with_reducible rfl)
                (try simp only [Act.put, List.setIfInBounds_toArray, List.set_cons_zero, List.set_cons_succ])
                refine wpAnyH_done (by kernel_rfl) ?_ _
                (try simp only [Act.put, List.getElem_toArray, List.getElem_cons_succ, List.getElem_cons_zero, List.setIfInBounds_toArray, List.set_cons_zero, List.set_cons_succ])
                go_wp2_with fail
                refine (CD.out _ BW.out).mono ?_
                rintro e w' ⟨rfl, rfl⟩
                go_wp2_with fail
                go_ret
                exact ⟨rfl, B2.out.trans (BW.out.mono B2.out.size)⟩
              exact AllReadyH.nil
        | true =>
          cases rk with
          | true =>
            obtain rfl : cd = 10 := by rw [HC2.out]; rfl
            refine wp_region_held_drew (S := fun w' => w'.cell? ⟨x, 0, none⟩ = some (.int .i64 op) ∧ w'.cell? ⟨x, 1, none⟩ = some (.string a) ∧ w'.cell? ⟨x, 2, none⟩ = some (.string b)) (by kernel_rfl) (SKEEP.out _ (bl_drew BW.out)) (fun hHeld => ?_)
            refine take_at (d := 51) (i := 0) (v := ?v46) rfl rfl (by kernel_rfl) (by kernel_rfl) (by kernel_rfl) (fun _ _ _ h => h) (Or.inl ⟨by rfl, ?hy46⟩) (by assumption) ?hr46
            case hy46 => (intro w' hSw; (try dsimp only at hSw); go_simp; try with_reducible rfl)
            (try simp only [Act.put, List.setIfInBounds_toArray, List.set_cons_zero, List.set_cons_succ])
            refine wpAnyH_ready (rs := [1]) (by kernel_rfl) (by simp) ?_
            refine AllReadyH.cons rfl (fun K hK => ?_) ?_
            · rw [if_pos (by rfl)]
              go_simp
              go_at_call 24
              refine (CKY.out _ (by first | exact BW.out | exact bl_drew BW.out)).mono ?_
              rintro e w5 ⟨rfl, b5⟩
              have BW : Hid (Below w1.heap.size w1 w5) := Lib.hid (by first | exact bl_call b5 BW.out | exact bl_call b5 (bl_drew BW.out))
              clear b5
              refine hK.out _ _ ?_ (fun hHeld => ?_)
              · exact SKEEP.out _ BW.out
              clear hK K
              (try simp only [Act.put, List.setIfInBounds_toArray, List.set_cons_zero, List.set_cons_succ])
              refine take_at (d := 53) (i := 2) (v := ?v47) rfl rfl (by kernel_rfl) (by kernel_rfl) (by kernel_rfl) (fun _ _ _ h => h) (Or.inl ⟨by rfl, ?hy47⟩) (by assumption) ?hr47
              case hy47 => (intro w' hSw; (try dsimp only at hSw); go_simp; try with_reducible rfl)
              (try simp only [Act.put, List.setIfInBounds_toArray, List.set_cons_zero, List.set_cons_succ])
              refine take_at (d := 54) (i := 3) (v := ?v48) rfl rfl (by kernel_rfl) (by kernel_rfl) (by kernel_rfl) (fun _ _ _ h => h) (Or.inl ⟨by rfl, ?hy48⟩) (by assumption) ?hr48
              case hy48 => (intro w' hSw; (try dsimp only at hSw); go_simp; try with_reducible rfl)
              (try simp only [Act.put, List.setIfInBounds_toArray, List.set_cons_zero, List.set_cons_succ])
              refine take_at (d := 56) (i := 5) (v := ?v49) rfl rfl (by kernel_rfl) (by kernel_rfl) (by kernel_rfl) (fun _ _ _ h => h) (Or.inl ⟨by rfl, ?hy49⟩) (by assumption) ?hr49
              case hy49 => (intro w' hSw; (try dsimp only at hSw); go_simp; try with_reducible rfl)
              (try simp only [Act.put, List.setIfInBounds_toArray, List.set_cons_zero, List.set_cons_succ])
              refine take_at (d := 57) (i := 6) (v := ?v50) rfl rfl (by kernel_rfl) (by kernel_rfl) (by kernel_rfl) (fun _ _ _ h => h) (Or.inl ⟨by rfl, ?hy50⟩) (by assumption) ?hr50
              case hy50 => (intro w' hSw; (try dsimp only at hSw); go_simp; try with_reducible rfl)
              (try simp only [Act.put, List.setIfInBounds_toArray, List.set_cons_zero, List.set_cons_succ])
              refine wpAnyH_ready (rs := [4]) (by kernel_rfl) (by simp) ?_
              refine AllReadyH.cons rfl (fun K hK => ?_) ?_
              · rw [if_pos (by rfl)]
                go_simp
                go_at_call 23
                refine (CH.out _ (by first | exact BW.out | exact bl_drew BW.out)).mono ?_
                rintro e w5 ⟨rfl, j5, hw5⟩
                have BW : Hid (Below w1.heap.size w1 w5) := Lib.hid (by first | exact hw5 ▸ bl_drewN BW.out _ | exact hw5 ▸ bl_drewN (bl_drew BW.out) _)
                clear hw5
                refine hK.out _ _ ?_ (fun hHeld => ?_)
                · exact SKEEP.out _ BW.out
                clear hK K
                (try simp only [Act.put, List.setIfInBounds_toArray, List.set_cons_zero, List.set_cons_succ])
                refine wpAnyH_ready (rs := [7]) (by kernel_rfl) (by simp) ?_
                refine AllReadyH.cons rfl (fun K hK => ?_) ?_
                · rw [if_pos (by rfl)]
                  go_simp
                  go_at_call 25
                  refine (CHS.out _ (by first | exact BW.out | exact bl_drew BW.out)).mono ?_
                  rintro e w5 ⟨rfl, b5⟩
                  have BW : Hid (Below w1.heap.size w1 w5) := Lib.hid (by first | exact bl_call b5 BW.out | exact bl_call b5 (bl_drew BW.out))
                  clear b5
                  refine hK.out _ _ ?_ (fun hHeld => ?_)
                  · exact SKEEP.out _ BW.out
                  clear hK K
                  (try simp only [Act.put, List.setIfInBounds_toArray, List.set_cons_zero, List.set_cons_succ])
                  refine take_at (d := 59) (i := 8) (v := ?v51) rfl rfl (by kernel_rfl) (by kernel_rfl) (by kernel_rfl) (fun _ _ _ h => h) (Or.inl ⟨by rfl, ?hy51⟩) (by assumption) ?hr51
                  case hy51 => (intro w' hSw; (try dsimp only at hSw); go_simp; try with_reducible rfl)
                  (try simp only [Act.put, List.setIfInBounds_toArray, List.set_cons_zero, List.set_cons_succ])
                  refine take_at (d := 50) (i := 9) (v := ?v52) rfl rfl (by kernel_rfl) (by kernel_rfl) (by kernel_rfl) (fun _ _ _ h => h) (Or.inl ⟨by rfl, ?hy52⟩) (by assumption) ?hr52
                  case hy52 => (intro w' hSw; (try dsimp only at hSw); go_simp; try with_reducible rfl)
                  (try simp only [Act.put, List.setIfInBounds_toArray, List.set_cons_zero, List.set_cons_succ])
                  refine wpAnyH_done (by kernel_rfl) ?_ _
                  (try simp only [Act.put, List.getElem_toArray, List.getElem_cons_succ, List.getElem_cons_zero, List.setIfInBounds_toArray, List.set_cons_zero, List.set_cons_succ])
                  go_wp2_with fail
                  go_ret
                  exact ⟨rfl, B2.out.trans (BW.out.mono B2.out.size)⟩
                exact AllReadyH.nil
              exact AllReadyH.nil
            exact AllReadyH.nil
          | false =>
            cases z1 with
            | false =>
              obtain rfl : cd = 0 := by rw [HC2.out]; rfl
              refine wp_region_held_drew (S := fun w' => w'.cell? ⟨x, 0, none⟩ = some (.int .i64 op) ∧ w'.cell? ⟨x, 1, none⟩ = some (.string a) ∧ w'.cell? ⟨x, 2, none⟩ = some (.string b)) (by kernel_rfl) (SKEEP.out _ (bl_drew BW.out)) (fun hHeld => ?_)
              refine take_at (d := 51) (i := 0) (v := ?v53) rfl rfl (by kernel_rfl) (by kernel_rfl) (by kernel_rfl) (fun _ _ _ h => h) (Or.inl ⟨by rfl, ?hy53⟩) (by assumption) ?hr53
              case hy53 => (intro w' hSw; (try dsimp only at hSw); go_simp; try with_reducible rfl)
              (try simp only [Act.put, List.setIfInBounds_toArray, List.set_cons_zero, List.set_cons_succ])
              refine wpAnyH_ready (rs := [1]) (by kernel_rfl) (by simp) ?_
              refine AllReadyH.cons rfl (fun K hK => ?_) ?_
              · rw [if_pos (by rfl)]
                go_simp
                go_at_call 24
                refine (CKY.out _ (by first | exact BW.out | exact bl_drew BW.out)).mono ?_
                rintro e w5 ⟨rfl, b5⟩
                have BW : Hid (Below w1.heap.size w1 w5) := Lib.hid (by first | exact bl_call b5 BW.out | exact bl_call b5 (bl_drew BW.out))
                clear b5
                refine hK.out _ _ ?_ (fun hHeld => ?_)
                · exact SKEEP.out _ BW.out
                clear hK K
                (try simp only [Act.put, List.setIfInBounds_toArray, List.set_cons_zero, List.set_cons_succ])
                refine take_at (d := 53) (i := 2) (v := ?v54) rfl rfl (by kernel_rfl) (by kernel_rfl) (by kernel_rfl) (fun _ _ _ h => h) (Or.inl ⟨by rfl, ?hy54⟩) (by assumption) ?hr54
                case hy54 => (intro w' hSw; (try dsimp only at hSw); go_simp; try with_reducible rfl)
                (try simp only [Act.put, List.setIfInBounds_toArray, List.set_cons_zero, List.set_cons_succ])
                refine take_at (d := 54) (i := 3) (v := ?v55) rfl rfl (by kernel_rfl) (by kernel_rfl) (by kernel_rfl) (fun _ _ _ h => h) (Or.inl ⟨by rfl, ?hy55⟩) (by assumption) ?hr55
                case hy55 => (intro w' hSw; (try dsimp only at hSw); go_simp; try with_reducible rfl)
                (try simp only [Act.put, List.setIfInBounds_toArray, List.set_cons_zero, List.set_cons_succ])
                refine take_at (d := 56) (i := 5) (v := ?v56) rfl rfl (by kernel_rfl) (by kernel_rfl) (by kernel_rfl) (fun _ _ _ h => h) (Or.inl ⟨by rfl, ?hy56⟩) (by assumption) ?hr56
                case hy56 => (intro w' hSw; (try dsimp only at hSw); go_simp; try with_reducible rfl)
                (try simp only [Act.put, List.setIfInBounds_toArray, List.set_cons_zero, List.set_cons_succ])
                refine take_at (d := 57) (i := 6) (v := ?v57) rfl rfl (by kernel_rfl) (by kernel_rfl) (by kernel_rfl) (fun _ _ _ h => h) (Or.inl ⟨by rfl, ?hy57⟩) (by assumption) ?hr57
                case hy57 => (intro w' hSw; (try dsimp only at hSw); go_simp; try with_reducible rfl)
                (try simp only [Act.put, List.setIfInBounds_toArray, List.set_cons_zero, List.set_cons_succ])
                refine wpAnyH_ready (rs := [4]) (by kernel_rfl) (by simp) ?_
                refine AllReadyH.cons rfl (fun K hK => ?_) ?_
                · rw [if_pos (by rfl)]
                  go_simp
                  go_at_call 23
                  refine (CH.out _ (by first | exact BW.out | exact bl_drew BW.out)).mono ?_
                  rintro e w5 ⟨rfl, j5, hw5⟩
                  have BW : Hid (Below w1.heap.size w1 w5) := Lib.hid (by first | exact hw5 ▸ bl_drewN BW.out _ | exact hw5 ▸ bl_drewN (bl_drew BW.out) _)
                  clear hw5
                  refine hK.out _ _ ?_ (fun hHeld => ?_)
                  · exact SKEEP.out _ BW.out
                  clear hK K
                  (try simp only [Act.put, List.setIfInBounds_toArray, List.set_cons_zero, List.set_cons_succ])
                  refine wpAnyH_ready (rs := [7]) (by kernel_rfl) (by simp) ?_
                  refine AllReadyH.cons rfl (fun K hK => ?_) ?_
                  · rw [if_pos (by rfl)]
                    go_simp
                    go_at_call 25
                    refine (CHS.out _ (by first | exact BW.out | exact bl_drew BW.out)).mono ?_
                    rintro e w5 ⟨rfl, b5⟩
                    have BW : Hid (Below w1.heap.size w1 w5) := Lib.hid (by first | exact bl_call b5 BW.out | exact bl_call b5 (bl_drew BW.out))
                    clear b5
                    refine hK.out _ _ ?_ (fun hHeld => ?_)
                    · exact SKEEP.out _ BW.out
                    clear hK K
                    (try simp only [Act.put, List.setIfInBounds_toArray, List.set_cons_zero, List.set_cons_succ])
                    refine take_at (d := 59) (i := 8) (v := ?v58) rfl rfl (by kernel_rfl) (by kernel_rfl) (by kernel_rfl) (fun _ _ _ h => h) (Or.inl ⟨by rfl, ?hy58⟩) (by assumption) ?hr58
                    case hy58 => (intro w' hSw; (try dsimp only at hSw); go_simp; try with_reducible rfl)
                    (try simp only [Act.put, List.setIfInBounds_toArray, List.set_cons_zero, List.set_cons_succ])
                    refine take_at (d := 50) (i := 9) (v := ?v59) rfl rfl (by kernel_rfl) (by kernel_rfl) (by kernel_rfl) (fun _ _ _ h => h) (Or.inl ⟨by rfl, ?hy59⟩) (by assumption) ?hr59
                    case hy59 => (intro w' hSw; (try dsimp only at hSw); go_simp; try with_reducible rfl)
                    (try simp only [Act.put, List.setIfInBounds_toArray, List.set_cons_zero, List.set_cons_succ])
                    refine wpAnyH_done (by kernel_rfl) ?_ _
                    (try simp only [Act.put, List.getElem_toArray, List.getElem_cons_succ, List.getElem_cons_zero, List.setIfInBounds_toArray, List.set_cons_zero, List.set_cons_succ])
                    go_wp2_with fail
                    go_ret
                    exact ⟨rfl, B2.out.trans (BW.out.mono B2.out.size)⟩
                  exact AllReadyH.nil
                exact AllReadyH.nil
              exact AllReadyH.nil
            | true =>
              cases z8 with
              | false =>
                obtain rfl : cd = 0 := by rw [HC2.out]; rfl
                refine wp_region_held_drew (S := fun w' => w'.cell? ⟨x, 0, none⟩ = some (.int .i64 op) ∧ w'.cell? ⟨x, 1, none⟩ = some (.string a) ∧ w'.cell? ⟨x, 2, none⟩ = some (.string b)) (by kernel_rfl) (SKEEP.out _ (bl_drew BW.out)) (fun hHeld => ?_)
                refine take_at (d := 51) (i := 0) (v := ?v60) rfl rfl (by kernel_rfl) (by kernel_rfl) (by kernel_rfl) (fun _ _ _ h => h) (Or.inl ⟨by rfl, ?hy60⟩) (by assumption) ?hr60
                case hy60 => (intro w' hSw; (try dsimp only at hSw); go_simp; try with_reducible rfl)
                (try simp only [Act.put, List.setIfInBounds_toArray, List.set_cons_zero, List.set_cons_succ])
                refine wpAnyH_ready (rs := [1]) (by kernel_rfl) (by simp) ?_
                refine AllReadyH.cons rfl (fun K hK => ?_) ?_
                · rw [if_pos (by rfl)]
                  go_simp
                  go_at_call 24
                  refine (CKY.out _ (by first | exact BW.out | exact bl_drew BW.out)).mono ?_
                  rintro e w5 ⟨rfl, b5⟩
                  have BW : Hid (Below w1.heap.size w1 w5) := Lib.hid (by first | exact bl_call b5 BW.out | exact bl_call b5 (bl_drew BW.out))
                  clear b5
                  refine hK.out _ _ ?_ (fun hHeld => ?_)
                  · exact SKEEP.out _ BW.out
                  clear hK K
                  (try simp only [Act.put, List.setIfInBounds_toArray, List.set_cons_zero, List.set_cons_succ])
                  refine take_at (d := 53) (i := 2) (v := ?v61) rfl rfl (by kernel_rfl) (by kernel_rfl) (by kernel_rfl) (fun _ _ _ h => h) (Or.inl ⟨by rfl, ?hy61⟩) (by assumption) ?hr61
                  case hy61 => (intro w' hSw; (try dsimp only at hSw); go_simp; try with_reducible rfl)
                  (try simp only [Act.put, List.setIfInBounds_toArray, List.set_cons_zero, List.set_cons_succ])
                  refine take_at (d := 54) (i := 3) (v := ?v62) rfl rfl (by kernel_rfl) (by kernel_rfl) (by kernel_rfl) (fun _ _ _ h => h) (Or.inl ⟨by rfl, ?hy62⟩) (by assumption) ?hr62
                  case hy62 => (intro w' hSw; (try dsimp only at hSw); go_simp; try with_reducible rfl)
                  (try simp only [Act.put, List.setIfInBounds_toArray, List.set_cons_zero, List.set_cons_succ])
                  refine take_at (d := 56) (i := 5) (v := ?v63) rfl rfl (by kernel_rfl) (by kernel_rfl) (by kernel_rfl) (fun _ _ _ h => h) (Or.inl ⟨by rfl, ?hy63⟩) (by assumption) ?hr63
                  case hy63 => (intro w' hSw; (try dsimp only at hSw); go_simp; try with_reducible rfl)
                  (try simp only [Act.put, List.setIfInBounds_toArray, List.set_cons_zero, List.set_cons_succ])
                  refine take_at (d := 57) (i := 6) (v := ?v64) rfl rfl (by kernel_rfl) (by kernel_rfl) (by kernel_rfl) (fun _ _ _ h => h) (Or.inl ⟨by rfl, ?hy64⟩) (by assumption) ?hr64
                  case hy64 => (intro w' hSw; (try dsimp only at hSw); go_simp; try with_reducible rfl)
                  (try simp only [Act.put, List.setIfInBounds_toArray, List.set_cons_zero, List.set_cons_succ])
                  refine wpAnyH_ready (rs := [4]) (by kernel_rfl) (by simp) ?_
                  refine AllReadyH.cons rfl (fun K hK => ?_) ?_
                  · rw [if_pos (by rfl)]
                    go_simp
                    go_at_call 23
                    refine (CH.out _ (by first | exact BW.out | exact bl_drew BW.out)).mono ?_
                    rintro e w5 ⟨rfl, j5, hw5⟩
                    have BW : Hid (Below w1.heap.size w1 w5) := Lib.hid (by first | exact hw5 ▸ bl_drewN BW.out _ | exact hw5 ▸ bl_drewN (bl_drew BW.out) _)
                    clear hw5
                    refine hK.out _ _ ?_ (fun hHeld => ?_)
                    · exact SKEEP.out _ BW.out
                    clear hK K
                    (try simp only [Act.put, List.setIfInBounds_toArray, List.set_cons_zero, List.set_cons_succ])
                    refine wpAnyH_ready (rs := [7]) (by kernel_rfl) (by simp) ?_
                    refine AllReadyH.cons rfl (fun K hK => ?_) ?_
                    · rw [if_pos (by rfl)]
                      go_simp
                      go_at_call 25
                      refine (CHS.out _ (by first | exact BW.out | exact bl_drew BW.out)).mono ?_
                      rintro e w5 ⟨rfl, b5⟩
                      have BW : Hid (Below w1.heap.size w1 w5) := Lib.hid (by first | exact bl_call b5 BW.out | exact bl_call b5 (bl_drew BW.out))
                      clear b5
                      refine hK.out _ _ ?_ (fun hHeld => ?_)
                      · exact SKEEP.out _ BW.out
                      clear hK K
                      (try simp only [Act.put, List.setIfInBounds_toArray, List.set_cons_zero, List.set_cons_succ])
                      refine take_at (d := 59) (i := 8) (v := ?v65) rfl rfl (by kernel_rfl) (by kernel_rfl) (by kernel_rfl) (fun _ _ _ h => h) (Or.inl ⟨by rfl, ?hy65⟩) (by assumption) ?hr65
                      case hy65 => (intro w' hSw; (try dsimp only at hSw); go_simp; try with_reducible rfl)
                      (try simp only [Act.put, List.setIfInBounds_toArray, List.set_cons_zero, List.set_cons_succ])
                      refine take_at (d := 50) (i := 9) (v := ?v66) rfl rfl (by kernel_rfl) (by kernel_rfl) (by kernel_rfl) (fun _ _ _ h => h) (Or.inl ⟨by rfl, ?hy66⟩) (by assumption) ?hr66
                      case hy66 => (intro w' hSw; (try dsimp only at hSw); go_simp; try with_reducible rfl)
                      (try simp only [Act.put, List.setIfInBounds_toArray, List.set_cons_zero, List.set_cons_succ])
                      refine wpAnyH_done (by kernel_rfl) ?_ _
                      (try simp only [Act.put, List.getElem_toArray, List.getElem_cons_succ, List.getElem_cons_zero, List.setIfInBounds_toArray, List.set_cons_zero, List.set_cons_succ])
                      go_wp2_with fail
                      refine (CD.out _ BW.out).mono ?_
                      rintro e w' ⟨rfl, rfl⟩
                      go_wp2_with fail
                      go_ret
                      exact ⟨rfl, B2.out.trans (BW.out.mono B2.out.size)⟩
                    exact AllReadyH.nil
                  exact AllReadyH.nil
                exact AllReadyH.nil
              | true =>
                obtain rfl : cd = 12 := by rw [HC2.out]; rfl
                refine wp_region_held_drew (S := fun w' => w'.cell? ⟨x, 0, none⟩ = some (.int .i64 op) ∧ w'.cell? ⟨x, 1, none⟩ = some (.string a) ∧ w'.cell? ⟨x, 2, none⟩ = some (.string b)) (by kernel_rfl) (SKEEP.out _ (bl_drew BW.out)) (fun hHeld => ?_)
                refine take_at (d := 51) (i := 0) (v := ?v67) rfl rfl (by kernel_rfl) (by kernel_rfl) (by kernel_rfl) (fun _ _ _ h => h) (Or.inl ⟨by rfl, ?hy67⟩) (by assumption) ?hr67
                case hy67 => (intro w' hSw; (try dsimp only at hSw); go_simp; try with_reducible rfl)
                (try simp only [Act.put, List.setIfInBounds_toArray, List.set_cons_zero, List.set_cons_succ])
                refine wpAnyH_ready (rs := [1]) (by kernel_rfl) (by simp) ?_
                refine AllReadyH.cons rfl (fun K hK => ?_) ?_
                · rw [if_pos (by rfl)]
                  go_simp
                  go_at_call 24
                  refine (CKY.out _ (by first | exact BW.out | exact bl_drew BW.out)).mono ?_
                  rintro e w5 ⟨rfl, b5⟩
                  have BW : Hid (Below w1.heap.size w1 w5) := Lib.hid (by first | exact bl_call b5 BW.out | exact bl_call b5 (bl_drew BW.out))
                  clear b5
                  refine hK.out _ _ ?_ (fun hHeld => ?_)
                  · exact SKEEP.out _ BW.out
                  clear hK K
                  (try simp only [Act.put, List.setIfInBounds_toArray, List.set_cons_zero, List.set_cons_succ])
                  refine take_at (d := 53) (i := 2) (v := ?v68) rfl rfl (by kernel_rfl) (by kernel_rfl) (by kernel_rfl) (fun _ _ _ h => h) (Or.inl ⟨by rfl, ?hy68⟩) (by assumption) ?hr68
                  case hy68 => (intro w' hSw; (try dsimp only at hSw); go_simp; try with_reducible rfl)
                  (try simp only [Act.put, List.setIfInBounds_toArray, List.set_cons_zero, List.set_cons_succ])
                  refine take_at (d := 54) (i := 3) (v := ?v69) rfl rfl (by kernel_rfl) (by kernel_rfl) (by kernel_rfl) (fun _ _ _ h => h) (Or.inl ⟨by rfl, ?hy69⟩) (by assumption) ?hr69
                  case hy69 => (intro w' hSw; (try dsimp only at hSw); go_simp; try with_reducible rfl)
                  (try simp only [Act.put, List.setIfInBounds_toArray, List.set_cons_zero, List.set_cons_succ])
                  refine take_at (d := 56) (i := 5) (v := ?v70) rfl rfl (by kernel_rfl) (by kernel_rfl) (by kernel_rfl) (fun _ _ _ h => h) (Or.inl ⟨by rfl, ?hy70⟩) (by assumption) ?hr70
                  case hy70 => (intro w' hSw; (try dsimp only at hSw); go_simp; try with_reducible rfl)
                  (try simp only [Act.put, List.setIfInBounds_toArray, List.set_cons_zero, List.set_cons_succ])
                  refine take_at (d := 57) (i := 6) (v := ?v71) rfl rfl (by kernel_rfl) (by kernel_rfl) (by kernel_rfl) (fun _ _ _ h => h) (Or.inl ⟨by rfl, ?hy71⟩) (by assumption) ?hr71
                  case hy71 => (intro w' hSw; (try dsimp only at hSw); go_simp; try with_reducible rfl)
                  (try simp only [Act.put, List.setIfInBounds_toArray, List.set_cons_zero, List.set_cons_succ])
                  refine wpAnyH_ready (rs := [4]) (by kernel_rfl) (by simp) ?_
                  refine AllReadyH.cons rfl (fun K hK => ?_) ?_
                  · rw [if_pos (by rfl)]
                    go_simp
                    go_at_call 23
                    refine (CH.out _ (by first | exact BW.out | exact bl_drew BW.out)).mono ?_
                    rintro e w5 ⟨rfl, j5, hw5⟩
                    have BW : Hid (Below w1.heap.size w1 w5) := Lib.hid (by first | exact hw5 ▸ bl_drewN BW.out _ | exact hw5 ▸ bl_drewN (bl_drew BW.out) _)
                    clear hw5
                    refine hK.out _ _ ?_ (fun hHeld => ?_)
                    · exact SKEEP.out _ BW.out
                    clear hK K
                    (try simp only [Act.put, List.setIfInBounds_toArray, List.set_cons_zero, List.set_cons_succ])
                    refine wpAnyH_ready (rs := [7]) (by kernel_rfl) (by simp) ?_
                    refine AllReadyH.cons rfl (fun K hK => ?_) ?_
                    · rw [if_pos (by rfl)]
                      go_simp
                      go_at_call 25
                      refine (CHS.out _ (by first | exact BW.out | exact bl_drew BW.out)).mono ?_
                      rintro e w5 ⟨rfl, b5⟩
                      have BW : Hid (Below w1.heap.size w1 w5) := Lib.hid (by first | exact bl_call b5 BW.out | exact bl_call b5 (bl_drew BW.out))
                      clear b5
                      refine hK.out _ _ ?_ (fun hHeld => ?_)
                      · exact SKEEP.out _ BW.out
                      clear hK K
                      (try simp only [Act.put, List.setIfInBounds_toArray, List.set_cons_zero, List.set_cons_succ])
                      refine take_at (d := 59) (i := 8) (v := ?v72) rfl rfl (by kernel_rfl) (by kernel_rfl) (by kernel_rfl) (fun _ _ _ h => h) (Or.inl ⟨by rfl, ?hy72⟩) (by assumption) ?hr72
                      case hy72 => (intro w' hSw; (try dsimp only at hSw); go_simp; try with_reducible rfl)
                      (try simp only [Act.put, List.setIfInBounds_toArray, List.set_cons_zero, List.set_cons_succ])
                      refine take_at (d := 50) (i := 9) (v := ?v73) rfl rfl (by kernel_rfl) (by kernel_rfl) (by kernel_rfl) (fun _ _ _ h => h) (Or.inl ⟨by rfl, ?hy73⟩) (by assumption) ?hr73
                      case hy73 => (intro w' hSw; (try dsimp only at hSw); go_simp; try with_reducible rfl)
                      (try simp only [Act.put, List.setIfInBounds_toArray, List.set_cons_zero, List.set_cons_succ])
                      refine wpAnyH_done (by kernel_rfl) ?_ _
                      (try simp only [Act.put, List.getElem_toArray, List.getElem_cons_succ, List.getElem_cons_zero, List.setIfInBounds_toArray, List.set_cons_zero, List.set_cons_succ])
                      go_wp2_with fail
                      refine (CD.out _ BW.out).mono ?_
                      rintro e w' ⟨rfl, rfl⟩
                      go_wp2_with fail
                      go_ret
                      exact ⟨rfl, B2.out.trans (BW.out.mono B2.out.size)⟩
                    exact AllReadyH.nil
                  exact AllReadyH.nil
                exact AllReadyH.nil
end Go.Proofs.Ytfjnbjpenibpkaa.P13
