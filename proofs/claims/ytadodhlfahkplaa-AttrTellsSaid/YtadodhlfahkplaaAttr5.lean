/- What the reference's New and Join answer, for every list that isn't too long. -/
import Derived.Test.YtadodhlfahkplaaAttr4
namespace Go.Proofs.Ytadodhlfahkplaa.P3
open Go.RowKit

set_option maxHeartbeats 1000000 in
theorem rnew_any (l : List At) (A : Option Addr) (n c : Nat) (w : World) (hn : l.length = n) (hl : n ≤ 1000000) (H : Holds w w.heap.size A l) :
    Calls Try.prog 15 #[.slice A n c] w (GivesA w (newA l)) := by
  have HH := Lib.hid H
  have HN := Lib.hid hn
  clear H hn
  have hln : l.length ≤ 1000000 := by have := HN.out; omega
  have hst := thoseA_len l true
  go_enter Try.func15, Try.ntmps15
  go_wp2_with fail
  go_loopw [3, 4] (fun v i wr => ∃ k : Nat, k ≤ n ∧ i = .int .i64 k ∧ Hid (Below w.heap.size w wr) ∧ Hid (Own wr w.heap.size v (thoseA (l.take k) true))) (fun _ i _ => n - (intOf i).toNat)
  case atStart => exact ⟨0, by omega, rfl, Lib.hid (Below.refl _ _), Lib.hid (Own.nil _ _)⟩
  case round =>
    obtain ⟨k, hk, rfl, HW, HO⟩ := hrel
    have hz : w.heap.size ≤ wr.heap.size := HW.out.size
    by_cases hlt : k < n
    · have hlt' : k < l.length := by have := HN.out; omega
      obtain ⟨b, o, rfl, hb, h0, h1, h2⟩ := (HH.out.below HW.out (Nat.le_refl _)) k hlt'
      have hle := thoseA_take_len l true k
      cases hs : l[k].st
      · have HS : Hid ((l[k].st == true) = false) := Lib.hid (by rw [hs]; rfl)
        rw [hs] at h2
        clear hs
        go_wp2_with fail
        go_roundw
        case rel => exact ⟨k + 1, by omega, by go_num, HW, Lib.hid (by rw [thoseA_no hlt' HS.out]; exact HO.out)⟩
        case measure => simp [intOf]; omega
      · have HS : Hid ((l[k].st == true) = true) := Lib.hid (by rw [hs]; rfl)
        have HE : Hid (l[k].st = true) := Lib.hid hs
        rw [hs] at h2
        clear hs
        have hbk : Blk (wr.alloc (.cells #[.string l[k].nm, .string l[k].vl, .bool true] 26)) wr.heap.size l[k] := Blk.newS wr HE.out
        go_wp2_with (at_builtin; refine wp_app rfl _ _ rfl (v := u3) (l := thoseA (l.take k) true) (m := [l[k]]) (base := w.heap.size) rfl (HO.out.alloc _) rfl rfl (fun e => by cases e) (Holds.one hbk) (by simp; omega) (by simp; omega) ?_; intro v' w1 hown' hgrow _)
        go_roundw
        case rel => exact ⟨k + 1, by omega, by go_num, Lib.hid ((HW.out.alloc (by omega) _).grown hgrow (by simp; omega) (fun j hj => (World.ownsRow.lt HO.out j hj).1)), Lib.hid (by rw [thoseA_yes hlt' HS.out]; exact hown')⟩
        case measure => simp [intOf]; omega
    · obtain rfl : k = n := by omega
      go_wp2_with fail
      obtain ⟨wo, rfl⟩ : ∃ wo : World, wo = wr := ⟨_, rfl⟩
      have HO' : Hid (Own wo w.heap.size u3 (thoseA l true)) := Lib.hid (by have := HO.out; rwa [thoseA_all HN.out] at this)
      go_loopw [3, 5] (fun v i wr => ∃ j : Nat, j ≤ k ∧ i = .int .i64 j ∧ Hid (Below w.heap.size w wr) ∧ Hid (Own wr w.heap.size v (thoseA l true ++ thoseA (l.take j) false))) (fun _ i _ => k - (intOf i).toNat)
      case atStart => exact ⟨0, by omega, rfl, HW, Lib.hid (by simpa [thoseA] using HO'.out)⟩
      case round =>
        obtain ⟨j, hj, rfl, HWi, HOi⟩ := hrel
        have hz : w.heap.size ≤ wr.heap.size := HWi.out.size
        by_cases hjn : j < k
        · have hlt' : j < l.length := by have := HN.out; omega
          obtain ⟨b, o, rfl, hb, h0, h1, h2⟩ := (HH.out.below HWi.out (Nat.le_refl _)) j hlt'
          have hle := thoseA_take_len l false j
          cases hs : l[j].st
          · have HS : Hid ((l[j].st == false) = true) := Lib.hid (by rw [hs]; rfl)
            have HE : Hid (l[j].st = false) := Lib.hid hs
            rw [hs] at h2
            clear hs
            have hbk : Blk (wr.alloc (.cells #[.string l[j].nm, .string l[j].vl, .bool false] 26)) wr.heap.size l[j] := Blk.newS wr HE.out
            go_wp2_with (at_builtin; refine wp_app rfl _ _ rfl (v := u3) (l := thoseA l true ++ thoseA (l.take j) false) (m := [l[j]]) (base := w.heap.size) rfl (HOi.out.alloc _) rfl rfl (fun e => by cases e) (Holds.one hbk) (by simp; omega) (by simp; omega) ?_; intro v' w1 hown' hgrow _)
            go_roundw
            case rel => exact ⟨j + 1, by omega, by go_num, Lib.hid ((HWi.out.alloc (by omega) _).grown hgrow (by simp; omega) (fun i hi => (World.ownsRow.lt HOi.out i hi).1)), Lib.hid (by rw [thoseA_yes hlt' HS.out, ← List.append_assoc]; exact hown')⟩
            case measure => simp [intOf]; omega
          · have HS : Hid ((l[j].st == false) = false) := Lib.hid (by rw [hs]; rfl)
            rw [hs] at h2
            clear hs
            go_wp2_with fail
            go_roundw
            case rel => exact ⟨j + 1, by omega, by go_num, HWi, Lib.hid (by rw [thoseA_no hlt' HS.out]; exact HOi.out)⟩
            case measure => simp [intOf]; omega
        · obtain rfl : j = k := by omega
          go_wp2_with fail
          go_ret
          exact ⟨_, rfl, by have := HOi.out; rwa [thoseA_all HN.out] at this, HWi.out⟩
theorem rjoin_all {l m : List At} {n' : Nat} (hn : m.length = n') : joinA l m = (addA (thoseA l true) (thoseA (m.take n') false)).take 8 := by
  subst hn; simp [joinA]

set_option maxHeartbeats 2000000 in
set_option maxRecDepth 100000 in
theorem rjoin_any (l m : List At) (A B : Option Addr) (n n' c d : Nat) (w : World) (hn : l.length = n) (hn' : m.length = n') (hl : n ≤ 1000000) (hm : n' ≤ 1000000) (H : Holds w w.heap.size A l) (H2 : Holds w w.heap.size B m) :
    Calls Try.prog 13 #[.slice A n c, .slice B n' d] w (GivesA w (joinA l m)) := by
  have HH := Lib.hid H
  have HH2 := Lib.hid H2
  have HN := Lib.hid hn
  have HN' := Lib.hid hn'
  clear H H2 hn hn'
  have hln : l.length ≤ 1000000 := by have := HN.out; omega
  have hmn : m.length ≤ 1000000 := by have := HN'.out; omega
  have hst := thoseA_len l true
  go_enter Try.func13, Try.ntmps13
  go_wp2_with fail
  go_loopw [5, 6] (fun v i wr => ∃ k : Nat, k ≤ n ∧ i = .int .i64 k ∧ Hid (Below w.heap.size w wr) ∧ Hid (Own wr w.heap.size v (thoseA (l.take k) true))) (fun _ i _ => n - (intOf i).toNat)
  case atStart => exact ⟨0, by omega, rfl, Lib.hid (Below.refl _ _), Lib.hid (Own.nil _ _)⟩
  case round =>
    obtain ⟨k, hk, rfl, HW, HO⟩ := hrel
    have hz : w.heap.size ≤ wr.heap.size := HW.out.size
    by_cases hlt : k < n
    · have hlt' : k < l.length := by have := HN.out; omega
      obtain ⟨b, o, rfl, hb, h0, h1, h2⟩ := (HH.out.below HW.out (Nat.le_refl _)) k hlt'
      have hle := thoseA_take_len l true k
      cases hs : l[k].st
      · have HS : Hid ((l[k].st == true) = false) := Lib.hid (by rw [hs]; rfl)
        rw [hs] at h2
        clear hs
        go_wp2_with fail
        go_roundw
        case rel => exact ⟨k + 1, by omega, by go_num, HW, Lib.hid (by rw [thoseA_no hlt' HS.out]; exact HO.out)⟩
        case measure => simp [intOf]; omega
      · have HS : Hid ((l[k].st == true) = true) := Lib.hid (by rw [hs]; rfl)
        have HE : Hid (l[k].st = true) := Lib.hid hs
        rw [hs] at h2
        clear hs
        go_wp2_with (at_builtin; refine wp_app rfl _ _ rfl (v := u5) (l := thoseA (l.take k) true) (m := [l[k]]) (base := w.heap.size) rfl (HO.out.alloc _) rfl rfl (fun e => by cases e) (Holds.one (Blk.newS wr HE.out)) (by simp; omega) (by simp; omega) ?_; intro v' w1 hown' hgrow _)
        go_roundw
        case rel => exact ⟨k + 1, by omega, by go_num, Lib.hid ((HW.out.alloc (by omega) _).grown hgrow (by simp; omega) (fun j hj => (World.ownsRow.lt HO.out j hj).1)), Lib.hid (by rw [thoseA_yes hlt' HS.out]; exact hown')⟩
        case measure => simp [intOf]; omega
    · obtain rfl : k = n := by omega
      go_wp2_with fail
      obtain ⟨wo, rfl⟩ : ∃ wo : World, wo = wr := ⟨_, rfl⟩
      have HO' : Hid (Own wo w.heap.size u5 (thoseA l true)) := Lib.hid (by have := HO.out; rwa [thoseA_all HN.out] at this)
      go_loopw [5, 7] (fun v i wr => ∃ j : Nat, j ≤ n' ∧ i = .int .i64 j ∧ Hid (Below w.heap.size w wr) ∧ Hid (Own wr w.heap.size v (addA (thoseA l true) (thoseA (m.take j) false)))) (fun _ i _ => n' - (intOf i).toNat)
      case atStart => exact ⟨0, by omega, rfl, HW, Lib.hid (by simpa [thoseA, addA] using HO'.out)⟩
      case round =>
        obtain ⟨j, hj, rfl, HWi, HOi⟩ := hrel
        have hz : w.heap.size ≤ wr.heap.size := HWi.out.size
        obtain ⟨A5, n5, c5, rfl, hn5, hc5, hm5, hz5, hb5, h5⟩ := HOi.out.slice
        have HN5 := Lib.hid hn5
        have hs5 : n5 ≤ 2000000 := by have := radd_len (thoseA l true) m j; omega
        have H5 := Lib.hid h5
        unfold maxLen at hm5
        clear hn5 hz5 hb5 h5
        by_cases hjn : j < n'
        · have hlt' : j < m.length := by have := HN'.out; omega
          obtain ⟨b, o, rfl, hb, h0, h1, h2⟩ := (HH2.out.below HWi.out (Nat.le_refl _)) j hlt'
          go_wp2_with fail
          obtain ⟨wi, rfl⟩ : ∃ wi : World, wi = wr := ⟨_, rfl⟩
          go_loopw [8, 9] (fun u i wr => ∃ (q : Nat) (met : Bool), q ≤ n5 ∧ u = .bool met ∧ i = .int .i64 q ∧ Hid (met = (m[j].st || hasA ((addA (thoseA l true) (thoseA (m.take j) false)).take q) m[j].nm)) ∧ Hid (Below wi.heap.size wi wr)) (fun _ i _ => n5 - (intOf i).toNat)
          case atStart => exact ⟨0, _, by omega, rfl, rfl, Lib.hid (by simp [hasA, findA]), Lib.hid (Below.refl _ _)⟩
          case round =>
            obtain ⟨q, met, hq, rfl, rfl, HM, HWq⟩ := hrel
            have hzq : wi.heap.size ≤ wr.heap.size := HWq.out.size
            by_cases hqn : q < n5
            · have hql : q < (addA (thoseA l true) (thoseA (m.take j) false)).length := by have := HN5.out; omega
              obtain ⟨b5, o5, rfl, hb5, p0, p1, p2⟩ := (H5.out.below HWq.out (Nat.le_refl _)) q hql
              have g0 : wr.cell? ⟨b, o + j * 3, none⟩ = some (.string m[j].nm) := by rw [HWq.out.cell (by show b < wi.heap.size; omega)]; exact h0
              have hsucc := hasA_take_succ (s := m[j].nm) hql
              have HSU := Lib.hid hsucc
              clear hsucc h0 h1 h2 p1 p2
              cases met
              · cases he : ((addA (thoseA l true) (thoseA (m.take j) false))[q].nm.toList == m[j].nm.toList)
                · have HE := Lib.hid he
                  go_wp2_with fail
                  go_quiet (fail)
                  go_wp2_with fail
                  go_roundw
                  case rel => exact ⟨q + 1, false, by omega, rfl, by go_num, Lib.hid (by rw [HSU.out, HE.out, Bool.or_false]; exact HM.out), Lib.hid (Below_drewN HWq.out _)⟩
                  case measure => simp [intOf]; omega
                · have HE := Lib.hid he
                  go_wp2_with fail
                  go_quiet (fail)
                  go_wp2_with fail
                  go_roundw
                  case rel => exact ⟨q + 1, true, by omega, rfl, by go_num, Lib.hid (by rw [HSU.out, HE.out]; simp), Lib.hid (Below_drewN HWq.out _)⟩
                  case measure => simp [intOf]; omega
              · go_wp2_with fail
                go_quiet (fail)
                go_wp2_with fail
                go_roundw
                case rel => exact ⟨q + 1, true, by omega, rfl, by go_num, Lib.hid (by rw [HSU.out, ← Bool.or_assoc, ← HM.out]; rfl), Lib.hid (Below_drewN HWq.out _)⟩
                case measure => simp [intOf]; omega
            · obtain rfl : q = n5 := by omega
              have HM' : Hid (met = (m[j].st || hasA (addA (thoseA l true) (thoseA (m.take j) false)) m[j].nm)) := Lib.hid (by have := HM.out; rwa [List.take_of_length_le (by have := HN5.out; omega)] at this)
              have HO6 := Lib.hid (HOi.out.below HWq.out (Nat.le_refl _))
              have HW6 := Lib.hid (HWi.out.trans (HWq.out.mono hz))
              obtain ⟨b', o', hA', hb', g0, g1, g2⟩ := (HH2.out.below HW6.out (Nat.le_refl _)) j hlt'
              injection hA' with hA'
              injection hA' with e1 e2
              subst e1; subst e2
              clear h0 h1 h2
              cases met
              · have hh5 : (addA (thoseA l true) (thoseA (m.take j) false)).length = q := HN5.out
                have HH5 := Lib.hid hh5
                clear hh5
                go_wp2_with (at_builtin; refine wp_app rfl _ _ rfl (v := .slice A5 q c5) (l := addA (thoseA l true) (thoseA (m.take j) false)) (m := [m[j]]) (base := w.heap.size) rfl (HO6.out.alloc _) rfl rfl (fun e => by cases e) (Holds.one (Blk.new _ _)) (by have := HH5.out; simp; omega) (by simp; omega) ?_; intro v' w1 hown' hgrow _)
                go_roundw
                case rel => exact ⟨j + 1, by omega, by go_num, Lib.hid ((HW6.out.alloc (by omega) _).grown hgrow (by simp; omega) (fun i hi => (World.ownsRow.lt HO6.out i hi).1)), Lib.hid (by rw [radd_no hlt' HM'.out]; exact hown')⟩
                case measure => simp [intOf]; omega
              · go_wp2_with fail
                go_roundw
                case rel => exact ⟨j + 1, by omega, by go_num, HW6, Lib.hid (by rw [radd_yes hlt' HM'.out]; exact HO6.out)⟩
                case measure => simp [intOf]; omega
        · obtain rfl : j = n' := by omega
          by_cases h8 : n5 ≤ 8
          · go_wp2_with fail
            go_ret
            exact ⟨_, rfl, join_done HOi.out HN5.out (by omega) (rjoin_all HN'.out), HWi.out⟩
          · go_wp2_with fail
            go_ret
            exact ⟨_, rfl, join_done HOi.out HN5.out (by omega) (rjoin_all HN'.out), HWi.out⟩
end Go.Proofs.Ytadodhlfahkplaa.P3
