/- The walk of CodePuts, over the contracts of the program's Put and Get. No condition but those stated. -/
import Derived.Test.YtmddlcnogckmdaaLaw12
import Derived.Test.YtmddlcnogckmdaaTake
import Derived.Deep.DrawnRows
import Derived.Deep.RegionHeld3
set_option linter.unusedVariables false
set_option linter.unusedSimpArgs false
namespace Go.Proofs.Ytmddlcnogckmdaa.P12
open Go.RowKit Kd P4 P5 P11

theorem bl_call {a w w5 : World} (b5 : Below w.heap.size w w5) (h : Below a.heap.size a w) : Below a.heap.size a w5 := h.trans (b5.mono h.size)
theorem bl_drew {B : Nat} {a w : World} (h : Below B a w) : Below B a w.drew := ⟨h.os, h.tape, h.output, h.size, h.block⟩
theorem bl_drewN {B : Nat} {a w : World} (h : Below B a w) (n : Nat) : Below B a (w.drewN n) := ⟨h.os, h.tape, h.output, h.size, h.block⟩
theorem putR_bad {l : List In} {k : Nat} (h : k < l.length) (hm : mayI l[k] = false) : putR l = ([], 1) := by
  rw [putR, if_neg]
  intro e
  rw [List.all_eq_true] at e
  have := e _ (List.getElem_mem h)
  rw [hm] at this
  cases this
def MayTo (l : List In) (k : Nat) : Prop := ∀ j (h : j < l.length), j < k → mayI l[j] = true
theorem mayTo_all {l : List In} (h : MayTo l l.length) : ∀ i ∈ l, mayI i = true := by
  intro i hi
  obtain ⟨j, hj, rfl⟩ := List.mem_iff_getElem.1 hi
  exact h j hj hj
theorem own_holds {w : World} {D : Nat} {A : Option Addr} {n c : Nat} {l : List UInt8} (h : kB.Own w D (.slice A n c) l) : l.length = n ∧ n ≤ c ∧ (A = none → c = 0) ∧ kB.Holds w w.heap.size A l := by
  obtain ⟨A', n', c', hv, e1, e2, e3, e4, e5⟩ := h.slice
  injection hv with h1 h2 h3
  subst h1; subst h2; subst h3
  exact ⟨e1, e2, e4, e5⟩
set_option maxRecDepth 100000 in
set_option maxHeartbeats 4000000 in
theorem puts12_any (PP : PutC) (PG : GetC) (l : List In) (A : Option Addr) (n c : Nat) (w : World) (hh : kX.Holds w w.heap.size A l) (hn : l.length = n) (hnc : n ≤ c) (hcm : c ≤ maxLen) :
    Calls Try.prog 3 #[.slice A n c] w fun e w' => e = .returned (.bool true) ∧ Below w.heap.size w w' := by
  have q1 := err_eql
  have q2 := err_eql_nil
  have q3 := err_neq_nil
  have q4 := nil_eql_nil
  have q5 := nil_neq_nil
  have HU := Lib.hid (up12_any PP PG)
  have KH := Lib.hid hh
  have KN := Lib.hid hn
  have KC := Lib.hid hcm
  have HP := Lib.hid PP
  have hcm' : c ≤ 9223372036854775807 := by unfold maxLen at hcm; omega
  have hnm : n ≤ maxLen := by omega
  clear hh hn hcm
  go_enter Try.func3, Try.ntmps3
  go_wp2_with fail
  refine (HU.out w).mono ?_
  rintro e w1 ⟨rfl, b1⟩
  have B1 := Lib.hid b1
  clear b1 HU
  go_wp2_with fail
  refine (fewX_any l A n c w1 KN.out hnm (KH.out.on B1.out)).mono ?_
  rintro e w' ⟨hv, rfl⟩
  rcases hv with rfl | ⟨rfl, hl150, hsm⟩
  · go_wp2_with fail
    go_ret
    exact ⟨rfl, B1.out⟩
  have HSM := Lib.hid hsm
  have h150 : n ≤ 150 := by have := KN.out; omega
  clear hl150 hsm
  go_wp2_with fail
  refine (HP.out l A n c w1 (KH.out.on B1.out) KN.out hnc KC.out (by omega) HSM.out).mono ?_
  rintro e w2 ⟨Ab, nb, cb, rfl, e1, e2, e3, e4, e5, b2⟩
  have B2 := Lib.hid (B1.out.trans (b2.mono B1.out.size))
  have PB := Lib.hid e5
  have NB := Lib.hid e1
  have ZB := Lib.hid e4
  have CB := Lib.hid e2
  clear e1 e2 e3 e4 e5 b2 B1
  obtain ⟨ev, hev⟩ : ∃ v, errV (((putR l).2 : Nat) : Int) = v := ⟨_, rfl⟩
  rw [hev]
  have HEV := Lib.hid hev
  clear hev
  go_wp2_with fail
  go_loopw [6] (fun i wr => ∃ k : Nat, k ≤ n ∧ i = .int .i64 k ∧ Hid (MayTo l k) ∧ Hid (Below w2.heap.size w2 wr)) (fun i _ => n - (intOf i).toNat)
  case atStart => exact ⟨0, by omega, rfl, Lib.hid (fun j _ h => by omega), Lib.hid (Below.refl _ _)⟩
  case round =>
    obtain ⟨k, hk, rfl, HM, HB⟩ := hrel
    have HBB : Hid (Below w.heap.size w wr) := Lib.hid (B2.out.trans (HB.out.mono B2.out.size))
    by_cases hkn : k < n
    · have hkl : k < l.length := by have := KN.out; omega
      obtain ⟨b, o, rfl, hb, g0, g1, g2⟩ := cell_of_ins (KH.out.on HBB.out) hkl
      have CM : Hid (Calls Try.prog 9 #[.agg #[.int .i64 l[k].op, .string l[k].a, .string l[k].b]] wr fun e w' => e = .returned (.bool (mayI l[k])) ∧ Below wr.heap.size wr w') := Lib.hid (by
        have h := HSM.out _ (List.getElem_mem hkl)
        exact rmayI_any l[k] wr (by unfold maxLen; omega) (by unfold maxLen; omega))
      obtain ⟨mk, hmk⟩ : ∃ b, mayI l[k] = b := ⟨_, rfl⟩
      rw [hmk] at CM
      have HMK := Lib.hid hmk
      clear hmk
      have NX : Hid (mayI l[k] = true → MayTo l (k + 1)) := Lib.hid (fun hm j hj h => by
        rcases Nat.lt_or_ge j k with e | e
        · exact HM.out j hj e
        · obtain rfl : j = k := by omega
          exact hm)
      have HKL := Lib.hid hkl
      generalize hd : l[k] = dd at g0 g1 g2 CM
      clear hd
      go_wp2_with fail
      refine CM.out.mono ?_
      rintro e w3 ⟨rfl, b3⟩
      have B3 := Lib.hid (HB.out.trans (b3.mono HB.out.size))
      clear b3
      cases mk with
      | false =>
        have HR := Lib.hid (putR_bad HKL.out HMK.out)
        obtain rfl : ev = .iface 33 (.int .i64 1) := by rw [← HEV.out, HR.out]; rfl
        obtain rfl : nb = 0 := by have := NB.out; rw [HR.out] at this; exact this.symm
        go_wp2_with fail
        go_ret
        exact ⟨rfl, B2.out.trans (B3.out.mono B2.out.size)⟩
      | true =>
        have NX2 := Lib.hid (NX.out HMK.out)
        clear NX
        go_wp2_with fail
        go_roundw
        case rel => exact ⟨k + 1, by omega, by go_num, NX2, B3⟩
        case measure => simp [intOf]; omega
    · obtain rfl : k = n := by omega
      have HALL : Hid (∀ i ∈ l, mayI i = true) := Lib.hid (mayTo_all (by rw [KN.out]; exact HM.out))
      by_cases h120 : 120 < k
      · have HR : Hid (putR l = ([], 13)) := Lib.hid (by rw [putR, if_pos (by rw [List.all_eq_true]; exact HALL.out), if_pos (by rw [KN.out]; exact h120)])
        obtain rfl : ev = .iface 33 (.int .i64 13) := by rw [← HEV.out, HR.out]; rfl
        obtain rfl : nb = 0 := by have := NB.out; rw [HR.out] at this; exact this.symm
        have q7 : decide ((120 : Int) < (k : Int)) = true := by simp; omega
        go_wp2_with fail
        go_ret
        exact ⟨rfl, HBB.out⟩
      · have HR : Hid (putR l = (putI l, 0)) := Lib.hid (by rw [putR, if_pos (by rw [List.all_eq_true]; exact HALL.out), if_neg (by rw [KN.out]; exact h120)])
        obtain rfl : ev = .nilIface := by rw [← HEV.out, HR.out]; rfl
        have q7 : decide ((120 : Int) < (k : Int)) = false := by simp; omega
        rw [HR.out] at PB NB
        have SK : Hid (∀ wz, Below wr.heap.size wr wz → (convert 25 9 (.slice Ab nb cb)).run Try.prog wz = .ok (.string (bs (putI l))) wz) := Lib.hid (fun wz h => conv_all (PB.out.on (HB.out.trans (h.mono HB.out.size))) NB.out ZB.out CB.out)
        have CP : Hid (∀ wz, Below wr.heap.size wr wz → Calls Try.prog 10 #[.slice A k c] wz (Bv wz (putI l))) := Lib.hid (fun wz h => rput_any l A k c wz (KH.out.on (HBB.out.trans (h.mono HBB.out.size))) KN.out (by omega) HALL.out)
        generalize putI l = pl at SK CP
        have qs : (bs pl).toList == (bs pl).toList := by simp
        clear HR HEV HM PB NB ZB
        go_upto_region 13 with fail
        have BW : Hid (Below wr.heap.size wr wr) := Lib.hid (Below.refl _ _)
        have SZ := SK.out wr BW.out
        refine wp_region_held_drew (S := fun w' => (convert 25 9 (.slice Ab nb cb)).run Try.prog w' = .ok (.string (bs pl)) w') (by kernel_rfl) (SK.out _ (bl_drew BW.out)) (fun hHeld => ?_)
        refine Tk.take_at (d := 56) (i := 0) (v := ?v1) rfl rfl (by kernel_rfl) (by kernel_rfl) (by kernel_rfl) (fun _ _ _ h => h) (Or.inl ⟨by rfl, ?hy1⟩) (by assumption) ?hr1
        case hy1 => (intro w' hSw; (try dsimp only at hSw); go_simp; try with_reducible rfl)
        (try simp only [Act.put, List.setIfInBounds_toArray, List.set_cons_zero, List.set_cons_succ])
        refine Tk.take_at (d := 57) (i := 1) (v := ?v2) rfl rfl (by kernel_rfl) (by kernel_rfl) (by kernel_rfl) (fun _ _ _ h => h) (Or.inl ⟨by rfl, ?hy2⟩) (by assumption) ?hr2
        case hy2 => (intro w' hSw; (try dsimp only at hSw); go_simp; try with_reducible rfl)
        (try simp only [Act.put, List.setIfInBounds_toArray, List.set_cons_zero, List.set_cons_succ])
        refine Tk.take_at (d := 58) (i := 2) (v := ?v3) rfl rfl (by kernel_rfl) (by kernel_rfl) (by kernel_rfl) (fun _ _ _ h => h) (Or.inl ⟨by rfl, ?hy3⟩) (by assumption) ?hr3
        case hy3 => (intro w' hSw; (try dsimp only at hSw); go_simp; try with_reducible rfl)
        (try simp only [Act.put, List.setIfInBounds_toArray, List.set_cons_zero, List.set_cons_succ])
        refine Tk.take_at (d := 59) (i := 3) (v := ?v4) rfl rfl (by kernel_rfl) (by kernel_rfl) (by kernel_rfl) (fun _ _ _ h => h) (Or.inl ⟨by rfl, ?hy4⟩) (by assumption) ?hr4
        case hy4 => (intro w' hSw; (try dsimp only at hSw); go_simp; try with_reducible rfl)
        (try simp only [Act.put, List.setIfInBounds_toArray, List.set_cons_zero, List.set_cons_succ])
        refine Tk.take_at (d := 60) (i := 4) (v := ?v5) rfl rfl (by kernel_rfl) (by kernel_rfl) (by kernel_rfl) (fun _ _ _ h => h) (Or.inl ⟨by rfl, ?hy5⟩) (by assumption) ?hr5
        case hy5 => (intro w' hSw; (try dsimp only at hSw); go_simp; try with_reducible rfl)
        (try simp only [Act.put, List.setIfInBounds_toArray, List.set_cons_zero, List.set_cons_succ])
        refine Tk.take_at (d := 61) (i := 5) (v := ?v6) rfl rfl (by kernel_rfl) (by kernel_rfl) (by kernel_rfl) (fun _ _ _ h => h) (Or.inl ⟨by rfl, ?hy6⟩) (by assumption) ?hr6
        case hy6 => (intro w' hSw; (try dsimp only at hSw); go_simp; try with_reducible rfl)
        (try simp only [Act.put, List.setIfInBounds_toArray, List.set_cons_zero, List.set_cons_succ])
        refine Tk.take_at (d := 62) (i := 6) (v := ?v7) rfl rfl (by kernel_rfl) (by kernel_rfl) (by kernel_rfl) (fun _ _ _ h => h) (Or.inl ⟨by rfl, ?hy7⟩) (by assumption) ?hr7
        case hy7 => (intro w' hSw; (try dsimp only at hSw); go_simp; try with_reducible rfl)
        (try simp only [Act.put, List.setIfInBounds_toArray, List.set_cons_zero, List.set_cons_succ])
        refine Tk.take_at (d := 63) (i := 7) (v := ?v8) rfl rfl (by kernel_rfl) (by kernel_rfl) (by kernel_rfl) (fun _ _ _ h => h) (Or.inl ⟨by rfl, ?hy8⟩) (by assumption) ?hr8
        case hy8 => (intro w' hSw; (try dsimp only at hSw); go_simp; try with_reducible rfl)
        (try simp only [Act.put, List.setIfInBounds_toArray, List.set_cons_zero, List.set_cons_succ])
        refine Tk.take_at (d := 64) (i := 8) (v := ?v9) rfl rfl (by kernel_rfl) (by kernel_rfl) (by kernel_rfl) (fun _ _ _ h => h) (Or.inl ⟨by rfl, ?hy9⟩) (by assumption) ?hr9
        case hy9 => (intro w' hSw; (try dsimp only at hSw); go_simp; try with_reducible rfl)
        (try simp only [Act.put, List.setIfInBounds_toArray, List.set_cons_zero, List.set_cons_succ])
        refine wpAnyH_ready (rs := [9]) (by kernel_rfl) (by simp) ?_
        refine AllReadyH.cons rfl (fun K hK => ?_) ?_
        · rw [if_pos (by rfl)]
          go_simp
          go_at_call 10
          refine (CP.out _ (by first | exact BW.out | exact bl_drew BW.out)).mono ?_
          rintro e w5 ⟨A5, n5, c5, rfl, own5, b5⟩
          have BW : Hid (Below wr.heap.size wr w5) := Lib.hid (by first | exact bl_call b5 BW.out | exact bl_call b5 (bl_drew BW.out))
          have kc5 := conv_all (own_holds own5).2.2.2 (own_holds own5).1 (own_holds own5).2.2.1 (own_holds own5).2.1
          clear own5 b5
          refine hK.out _ _ ?_ (fun hHeld => ?_)
          · exact SK.out _ BW.out
          clear hK K
          (try simp only [Act.put, List.setIfInBounds_toArray, List.set_cons_zero, List.set_cons_succ])
          refine wpAnyH_ready (rs := [10]) (by kernel_rfl) (by simp) ?_
          refine AllReadyH.cons rfl (fun K hK => ?_) ?_
          · rw [if_pos (by rfl)]
            go_simp
            refine hK.out _ _ ?_ (fun hHeld => ?_)
            · exact SK.out _ BW.out
            clear hK K
            (try simp only [Act.put, List.setIfInBounds_toArray, List.set_cons_zero, List.set_cons_succ])
            refine Tk.take_at (d := 67) (i := 11) (v := ?v10) rfl rfl (by kernel_rfl) (by kernel_rfl) (by kernel_rfl) (fun _ _ _ h => h) (Or.inl ⟨by rfl, ?hy10⟩) (by assumption) ?hr10
            case hy10 => (intro w' hSw; (try dsimp only at hSw); go_simp; try with_reducible rfl)
            (try simp only [Act.put, List.setIfInBounds_toArray, List.set_cons_zero, List.set_cons_succ])
            refine Tk.take_at (d := 68) (i := 12) (v := ?v11) rfl rfl (by kernel_rfl) (by kernel_rfl) (by kernel_rfl) (fun _ _ _ h => h) (Or.inl ⟨by rfl, ?hy11⟩) (by assumption) ?hr11
            case hy11 => (intro w' hSw; (try dsimp only at hSw); go_simp; try with_reducible rfl)
            (try simp only [Act.put, List.setIfInBounds_toArray, List.set_cons_zero, List.set_cons_succ])
            refine Tk.take_at (d := 2) (i := 13) (v := ?v12) rfl rfl (by kernel_rfl) (by kernel_rfl) (by kernel_rfl) (fun _ _ _ h => h) (Or.inl ⟨by rfl, ?hy12⟩) (by assumption) ?hr12
            case hy12 => (intro w' hSw; (try dsimp only at hSw); go_simp; try with_reducible rfl)
            (try simp only [Act.put, List.setIfInBounds_toArray, List.set_cons_zero, List.set_cons_succ])
            refine wpAnyH_done (by kernel_rfl) ?_ _
            (try simp only [Act.put, List.getElem_toArray, List.getElem_cons_succ, List.getElem_cons_zero, List.setIfInBounds_toArray, List.set_cons_zero, List.set_cons_succ])
            go_wp2_with fail
            go_ret
            exact ⟨by first | rfl | simp, HBB.out.trans (BW.out.mono HBB.out.size)⟩
          exact AllReadyH.nil
        exact AllReadyH.nil
end Go.Proofs.Ytmddlcnogckmdaa.P12
