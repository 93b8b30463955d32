/- The program's code.Put and code.Get keep their contracts. No condition but those stated. -/
import Derived.Test.YtmddlcnogckmdaaGet12
import Derived.Test.YtmddlcnogckmdaaLaw12b
set_option linter.unusedVariables false
set_option linter.unusedSimpArgs false
namespace Go.Proofs.Ytmddlcnogckmdaa.P12
open Go.RowKit Kd P4 P5 P11

/-- the first loop of Put: all so far may be -/
def QRel (w : World) (l : List In) (n : Nat) (s11 : Value) (wr : World) : Prop := ∃ k : Nat, k ≤ n ∧ s11 = .int .i64 k ∧ Hid (MayTo l k) ∧ Hid (Below w.heap.size w wr)
theorem mayTo_next {l : List In} {k : Nat} (h : MayTo l k) (hk : k < l.length) (hm : mayI l[k] = true) : MayTo l (k + 1) := by
  intro j hj hlt
  by_cases e : j = k
  · subst e; exact hm
  · exact h j hj (by omega)
theorem pv_err {w w' : World} {p : List UInt8 × Nat} {k : Nat} (h : p = ([], k)) (hk : ¬ k = 0) (hb : Below w.heap.size w w') : PutV w p (.returned (.tuple #[.slice none 0 0, .iface 33 (.int .i64 (k : Nat))])) w' := by
  have hv : errV ((k : Nat) : Int) = .iface 33 (.int .i64 (k : Nat)) := by unfold errV; rw [if_neg (by omega)]
  rw [h]
  refine ⟨none, 0, 0, ?_, rfl, Nat.le_refl _, by unfold maxLen; omega, fun _ => rfl, Kind.Holds.nil _ _ _, hb⟩
  show _ = Ending.returned (.tuple #[.slice none 0 0, errV ((k : Nat) : Int)])
  rw [hv]
set_option maxRecDepth 100000 in
set_option maxHeartbeats 4000000 in
theorem put_c : PutC := by
  intro l A n c w hh hn hnc hcm hl1 hsz
  have KH := Lib.hid hh
  have KL := Lib.hid hn
  have KS := Lib.hid hsz
  have ST : Hid (QRel w l n (.int .i64 0) w) := Lib.hid ⟨0, by omega, rfl, Lib.hid (fun j _ h => by omega), Lib.hid (Below.refl _ _)⟩
  clear hh hn hsz hcm
  go_enter Try.func8, Try.ntmps8
  go_wp2_with fail
  go_loopw [11] (fun s11 wr => QRel w l n s11 wr) (fun s11 _ => n - (intOf s11).toNat)
  case atStart => exact ST.out
  case round =>
    obtain ⟨k, hk, rfl, HM, HB⟩ := hrel
    clear ST
    by_cases hkn : k < n
    · have hkl : k < l.length := by have := KL.out; omega
      obtain ⟨b, o, rfl, hb, g0, g1, g2⟩ := cell_of_ins (KH.out.on HB.out) hkl
      have hs := KS.out l[k] (List.getElem_mem hkl)
      obtain ⟨bm, hbm⟩ : ∃ z, mayI l[k] = z := ⟨_, rfl⟩
      have HNX : Hid (mayI l[k] = true → MayTo l (k + 1)) := Lib.hid (mayTo_next HM.out hkl)
      have HBD : Hid (mayI l[k] = false → putR l = ([], 1)) := Lib.hid (putR_bad hkl)
      rw [hbm] at HNX HBD
      have CM : Hid (∀ wz, Calls Try.prog 15 #[.agg #[.int .i64 l[k].op, .string l[k].a, .string l[k].b]] wz fun e w' => e = .returned (.bool bm) ∧ Below wz.heap.size wz w') := Lib.hid (fun wz => by
        have := imay_c l[k] wz (by omega) (by omega)
        rw [hbm] at this
        exact this)
      clear hbm
      generalize l[k] = i at g0 g1 g2 hs CM
      obtain ⟨op, a, bb⟩ := i
      simp only at g0 g1 g2 hs CM
      go_upto_region 4 with fail
      have NA : Hid (XB (wr.alloc (.cells #[.int .i64 op, .string a, .string bb] 32)) wr.heap.size ⟨op, a, bb⟩) := Lib.hid (XB.new wr ⟨op, a, bb⟩)
      have BA : Hid (Below w.heap.size w (wr.alloc (.cells #[.int .i64 op, .string a, .string bb] 32))) := Lib.hid (HB.out.alloc HB.out.size _)
      generalize wr.alloc (.cells #[.int .i64 op, .string a, .string bb] 32) = w3 at NA BA ⊢
      clear g0 g1 g2
      have g0 := NA.out.c0; have g1 := NA.out.c1; have g2 := NA.out.c2
      simp only at g0 g1 g2
      go_wp2_with fail
      refine (CM.out w3).mono ?_
      rintro e w4 ⟨rfl, b4⟩
      have B4 := Lib.hid (BA.out.trans (b4.mono BA.out.size))
      clear b4 g0 g1 g2 CM BA NA HB HM
      cases bm with
      | false =>
        have HR : Hid (putR l = ([], 1)) := Lib.hid (HBD.out rfl)
        clear HNX HBD
        go_wp2_with fail
        go_ret2
        exact pv_err (k := 1) HR.out (by decide) B4.out
      | true =>
        have REL : Hid (QRel w l n (.int .i64 ((k + 1 : Nat) : Int)) w4) := Lib.hid ⟨k + 1, by omega, rfl, Lib.hid (HNX.out rfl), B4⟩
        clear HNX HBD
        go_wp2_with fail
        go_roundw
        case rel => exact REL.out
        case measure => simp [intOf]; omega
    · obtain rfl : k = n := by omega
      have HM2 : Hid (∀ i ∈ l, mayI i = true) := Lib.hid (mayTo_all (by have := HM.out; rwa [← KL.out] at this))
      have HALL : Hid (l.all mayI = true) := Lib.hid (by rw [List.all_eq_true]; exact HM2.out)
      clear HM
      by_cases h120 : 120 < k
      · have HR : Hid (putR l = ([], 13)) := Lib.hid (by rw [putR, if_pos HALL.out, if_pos (by rw [KL.out]; exact h120)])
        go_wp2_with fail
        go_ret2
        exact pv_err (k := 13) HR.out (by decide) HB.out
      · have HR : Hid (putR l = (putI l, 0)) := Lib.hid (by rw [putR, if_pos HALL.out, if_neg (by rw [KL.out]; exact h120)])
        have PL : Hid (∀ k, (putI (l.take k)).length ≤ 123000) := Lib.hid (fun k => by
          have := putI_len (l := l.take k) (fun i hi => HM2.out i (List.mem_of_mem_take hi))
          have hl := KL.out
          rw [List.length_take] at this
          omega)
        have ST2 : Hid (PRel w l k (.slice none 0 0) (.int .i64 0) wr) := Lib.hid ⟨0, none, 0, 0, by omega, rfl, rfl, Lib.hid (Kind.Own.nil kB wr _), HB⟩
        obtain ⟨n, hn⟩ : ∃ n, k = n := ⟨_, rfl⟩
        subst hn
        clear HB
        go_wp2_with fail
        go_loopw [6, 26] (fun s6 s26 wr => PRel w l k s6 s26 wr) (fun _ s26 _ => k - (intOf s26).toNat)
        case atStart => exact ST2.out
        case round =>
          obtain ⟨j, A', n', c', hj, rfl, rfl, HO, HB⟩ := hrel
          clear ST2
          by_cases hjn : j < k
          · have hkl : j < l.length := by have := KL.out; omega
            obtain ⟨b, o, rfl, hb, g0, g1, g2⟩ := cell_of_ins (KH.out.on HB.out) hkl
            have SN : Hid (putI (l.take (j + 1)) = putI (l.take j) ++ insH l[j]) := Lib.hid (putI_snoc hkl)
            have HMJ : Hid (mayI l[j] = true) := Lib.hid (HM2.out _ (List.getElem_mem hkl))
            have hpl := PL.out j
            generalize l[j] = i at g0 g1 g2 SN HMJ
            obtain ⟨op, a, bb⟩ := i
            simp only at g0 g1 g2
            go_upto_region 13 with fail
            have NA := XB.new wr ⟨op, a, bb⟩
            have O3 := Lib.hid (HO.out.alloc (.cells #[.int .i64 op, .string a, .string bb] 32))
            have B3 : Hid (Below w.heap.size w (wr.alloc (.cells #[.int .i64 op, .string a, .string bb] 32))) := Lib.hid (HB.out.alloc HB.out.size _)
            generalize wr.alloc (.cells #[.int .i64 op, .string a, .string bb] 32) = w3 at NA B3 O3 ⊢
            clear g0 g1 g2
            have g0 := NA.c0; have g1 := NA.c1; have g2 := NA.c2
            simp only at g0 g1 g2
            have CP := put_any (putI (l.take j)) ⟨op, a, bb⟩ A' n' c' w.heap.size w3 O3.out B3.out.size HMJ.out (by omega)
            clear NA
            go_wp2_with fail
            refine CP.mono ?_
            rintro e w4 ⟨A4, n4, c4, rfl, o4, b4, _⟩
            have B4 := Lib.hid (B3.out.trans b4)
            have REL : Hid (PRel w l k (.slice A4 n4 c4) (.int .i64 ((j + 1 : Nat) : Int)) w4) := Lib.hid ⟨j + 1, A4, n4, c4, by omega, rfl, rfl, Lib.hid (by rw [SN.out]; exact o4), B4⟩
            clear o4 b4 CP g0 g1 g2
            go_wp2_with fail
            go_roundw
            case rel => exact REL.out
            case measure => simp [intOf]; omega
          · obtain rfl : j = k := by omega
            have HOA : Hid (kB.Own wr w.heap.size (.slice A' n' c') (putI l)) := Lib.hid (by have := HO.out; rwa [List.take_of_length_le (by have := KL.out; omega)] at this)
            have PST : Hid (PutV w (putR l) (.returned (.tuple #[.slice A' n' c', .nilIface])) wr) := Lib.hid (by
              obtain ⟨A', n', c', hv, e1, e2, e3, e4, e5⟩ := HOA.out.slice
              injection hv with h1 h2 h3
              subst h1; subst h2; subst h3
              rw [HR.out]
              exact ⟨A', n', c', rfl, e1, e2, e3, e4, e5, HB.out⟩)
            clear HOA HO
            go_wp2_with fail
            go_ret2
            exact PST.out
end Go.Proofs.Ytmddlcnogckmdaa.P12
