/- What attr.those, attr.New and attr.Join answer, for every list that isn't too long. -/
import Derived.Test.YtadodhlfahkplaaAttr1
namespace Go.Proofs.Ytadodhlfahkplaa.P3
open Go.RowKit

set_option maxHeartbeats 400000 in
theorem those_any (l : List At) (A : Option Addr) (n c : Nat) (s : Bool) (w : World) (hn : l.length = n) (hl : n ≤ 1000000) (H : Holds w w.heap.size A l) :
    Calls Try.prog 22 #[.slice A n c, .bool s] w (GivesA w (thoseA l s)) := by
  have HH := Lib.hid H
  have HN0 := Lib.hid hn
  clear H hn
  go_enter Try.func22, Try.ntmps22
  go_wp2_with fail
  go_loopw [5, 10] (fun v i wr => ∃ k : Nat, k ≤ n ∧ i = .int .i64 k ∧ Hid (Below w.heap.size w wr) ∧ Hid (Own wr w.heap.size v (thoseA (l.take k) s))) (fun _ i _ => n - (intOf i).toNat)
  case atStart => exact ⟨0, by omega, rfl, Lib.hid (Below.refl _ _), Lib.hid (Own.nil _ _)⟩
  case round =>
    obtain ⟨k, hk, rfl, HW, HO⟩ := hrel
    have hz : w.heap.size ≤ wr.heap.size := HW.out.size
    by_cases hlt : k < n
    · have hlt' : k < l.length := by have := HN0.out; omega
      obtain ⟨b, o, rfl, hb, h0, h1, h2⟩ := (HH.out.below HW.out (Nat.le_refl _)) k hlt'
      cases hs : (l[k].st == s)
      · have HS := Lib.hid hs
        go_wp2_with fail
        go_roundw
        case rel => exact ⟨k + 1, by omega, by go_num, Lib.hid (HW.out.alloc (by omega) _), Lib.hid (by rw [thoseA_no hlt' HS.out]; exact HO.out.alloc _)⟩
        case measure => simp [intOf]; omega
      · have HS := Lib.hid hs
        have hle := thoseA_take_len l s k
        have hln : l.length ≤ 1000000 := by have := HN0.out; omega
        go_wp2_with (at_builtin; refine wp_app rfl _ _ rfl (v := u5) (l := thoseA (l.take k) s) (m := [l[k]]) (base := w.heap.size) rfl ((HO.out.alloc _).alloc _) rfl rfl (fun e => by cases e) (Holds.one (Blk.new2 _ _ _)) (by simp; omega) (by simp; omega) ?_; intro v' w1 hown' hgrow _)
        go_roundw
        case rel => exact ⟨k + 1, by omega, by go_num, Lib.hid (((HW.out.alloc (by omega) _).alloc (by simp; omega) _).grown hgrow (by simp; omega) (fun j hj => (World.ownsRow.lt HO.out j hj).1)), Lib.hid (by rw [thoseA_yes hlt' HS.out]; exact hown')⟩
        case measure => simp [intOf]; omega
    · obtain rfl : k = n := by omega
      go_wp2_with fail
      go_ret
      exact ⟨_, rfl, by rw [thoseA_all HN0.out] at HO; exact HO.out, HW.out⟩
set_option maxHeartbeats 400000 in
theorem new_any (l : List At) (A : Option Addr) (n c : Nat) (w : World) (hn : l.length = n) (hl : n ≤ 1000000) (H : Holds w w.heap.size A l) :
    Calls Try.prog 14 #[.slice A n c] w (GivesA w (newA l)) := by
  have HH := Lib.hid H
  have HN0 := Lib.hid hn
  clear H hn
  go_enter Try.func14, Try.ntmps14
  go_wp2_with fail
  refine (those_any l A n c true _ HN0.out hl HH.out).mono ?_
  rintro e w1 ⟨v1, rfl, o1, b1⟩
  have O1 := Lib.hid o1
  have B1 := Lib.hid b1
  clear o1 b1
  go_wp2_with fail
  refine (those_any l A n c false _ HN0.out hl (HH.out.on B1.out)).mono ?_
  rintro e w2 ⟨v2, rfl, o2, b2⟩
  obtain ⟨A2, n2, c2, rfl, hn2, hc2, hm2, hz2, hb2, h2⟩ := o2.slice
  have O1' := Lib.hid (O1.out.below b2 (Nat.le_refl _))
  have B2 := Lib.hid (B1.out.trans (b2.mono B1.out.size))
  have HN2 := Lib.hid hn2
  have HZ2 := Lib.hid hz2
  have H2 := Lib.hid h2
  have hs2 : n2 ≤ 1000000 := by have := thoseA_len l false; have := HN0.out; omega
  have hs1 : (thoseA l true).length ≤ 1000000 := by have := thoseA_len l true; have := HN0.out; omega
  clear o2 b2 hn2 hz2 hb2 h2 hm2 hc2
  have hB : w.heap.size ≤ w2.heap.size := B2.out.size
  go_wp2_with (at_builtin; refine wp_app rfl _ _ rfl (v := v1) (l := thoseA l true) (m := thoseA l false) (base := w.heap.size) rfl O1'.out rfl HN2.out HZ2.out H2.out (by omega) hB ?_; intro v' w3 hown' hgrow _)
  go_ret
  exact ⟨_, rfl, hown', B2.out.grown hgrow hB (fun j hj => (World.ownsRow.lt O1'.out j hj).1)⟩

/-- two slices of the call's own that don't share a block -/
def Apart (v : Value) (A : Option Addr) : Prop := ∀ b o, A = some ⟨b, o, none⟩ → some b ≠ v.ownBlock

theorem apart_holds {w w' : World} {o : Obj} {A : Option Addr} {l : List At} {v : Value} (h : Holds w w.heap.size A l) (ha : Apart v A) (hg : (w.alloc o).grownBy w' v.ownBlock) : Holds w' w'.heap.size A l := by
  have h1 := h.on ((Below.refl _ _).alloc (Nat.le_refl _) o)
  exact (h1.grown hg (Nat.le_refl _) ha).more hg.size
theorem apart_next {w : World} {o : Obj} {A : Option Addr} {l : List At} {v v' : Value} {k : Nat} (h : Holds w w.heap.size A l) (hk : k < l.length) (ha : Apart v A) (hat : v'.ownBlock = v.ownBlock ∨ v'.ownBlock = some (w.alloc o).heap.size) : Apart v' A := by
  intro b off hA
  obtain ⟨b', o', hA', hlt, _⟩ := h k hk
  rcases hat with e | e
  · rw [e]; exact ha b off hA
  · rw [e]
    intro e'
    rw [hA] at hA'
    injection hA' with e1
    injection e1 with e2 _
    injection e' with e3
    have : (w.alloc o).heap.size = w.heap.size + 1 := by simp
    omega
theorem join_done {W : World} {base n5 c5 r : Nat} {A5 : Option Addr} {L J : List At} (h : Own W base (.slice A5 n5 c5) L) (hn : L.length = n5) (hr : r = min n5 8) (hJ : J = L.take 8) : Own W base (.slice A5 r c5) J := by
  subst hr
  subst hJ
  have := h.cut (k := min n5 8) (by omega)
  have e : L.take (min n5 8) = L.take 8 := by
    subst hn
    by_cases h8 : L.length ≤ 8
    · rw [Nat.min_eq_left h8, List.take_of_length_le (Nat.le_refl _), List.take_of_length_le h8]
    · rw [Nat.min_eq_right (by omega)]
  rwa [e] at this
theorem join_full {l m : List At} {k n5 : Nat} (hn : (addA (thoseA l true) ((thoseA m false).take k)).length = n5) (h8 : 8 ≤ n5) : joinA l m = (addA (thoseA l true) ((thoseA m false).take k)).take 8 :=
  addA_full (by omega)
theorem join_all {l m : List At} {k : Nat} (hn : (thoseA m false).length = k) : joinA l m = (addA (thoseA l true) ((thoseA m false).take k)).take 8 := by
  subst hn; simp [joinA]

set_option maxHeartbeats 1000000 in
theorem join_any (l m : List At) (A B : Option Addr) (n n' c d : Nat) (w : World) (hn : l.length = n) (hn' : m.length = n') (hl : n ≤ 1000000) (hm : n' ≤ 1000000) (H : Holds w w.heap.size A l) (H2 : Holds w w.heap.size B m) :
    Calls Try.prog 12 #[.slice A n c, .slice B n' d] w (GivesA w (joinA l m)) := by
  have HH := Lib.hid H
  have HH2 := Lib.hid H2
  have HN := Lib.hid hn
  have HN' := Lib.hid hn'
  clear H H2 hn hn'
  go_enter Try.func12, Try.ntmps12
  go_wp2_with fail
  refine (those_any l A n c true _ HN.out hl HH.out).mono ?_
  rintro e w1 ⟨v1, rfl, o1, b1⟩
  have O1 := Lib.hid o1
  have B1 := Lib.hid b1
  clear o1 b1
  go_wp2_with fail
  refine (those_any m B n' d false _ HN'.out hm (HH2.out.on B1.out)).mono ?_
  rintro e w2 ⟨v2, rfl, o2, b2⟩
  obtain ⟨A2, n2, c2, rfl, hn2, hc2, hm2, hz2, hb2, h2⟩ := o2.slice
  have O1' := Lib.hid (O1.out.below b2 (Nat.le_refl _))
  have AP : Hid (Apart v1 A2) := Lib.hid (fun b o hA e => by
    have e1 := (World.ownsRow.lt O1.out b e.symm).2
    have e2 := (hb2 b o hA).1
    omega)
  have B2 := Lib.hid (B1.out.trans (b2.mono B1.out.size))
  have HN2 := Lib.hid hn2
  have H2 := Lib.hid h2
  have hs2 : n2 ≤ 1000000 := by have := thoseA_len m false; have := HN'.out; omega
  have hs1 : (thoseA l true).length ≤ 1000000 := by have := thoseA_len l true; have := HN.out; omega
  clear o2 b2 hn2 hz2 hb2 h2 hm2 hc2
  have hB : w.heap.size ≤ w2.heap.size := B2.out.size
  go_wp2_with fail
  go_loopw [5, 13] (fun v i wr => ∃ k : Nat, k ≤ n2 ∧ i = .int .i64 k ∧ Hid (Below w.heap.size w wr) ∧ Hid (Own wr w.heap.size v (addA (thoseA l true) ((thoseA m false).take k))) ∧ Hid (Holds wr wr.heap.size A2 (thoseA m false)) ∧ Hid (Apart v A2)) (fun _ i _ => n2 - (intOf i).toNat)
  case atStart => exact ⟨0, by omega, rfl, B2, O1', H2, AP⟩
  case round =>
    obtain ⟨k, hk, rfl, HW, HO, HA2, HAP⟩ := hrel
    have hz : w.heap.size ≤ wr.heap.size := HW.out.size
    obtain ⟨A5, n5, c5, rfl, hn5, hc5, hm5, hz5, hb5, h5⟩ := HO.out.slice
    have HN5 := Lib.hid hn5
    have hs5 : n5 ≤ 2000000 := by have := addA_take_len (thoseA l true) (thoseA m false) k; have := HN2.out; omega
    have HB5 := Lib.hid hb5
    have H5 := Lib.hid h5
    unfold maxLen at hm5
    clear hn5 hz5 hb5 h5
    by_cases hlt : k < n2
    · have hlt' : k < (thoseA m false).length := by have := HN2.out; omega
      obtain ⟨b, o, rfl, hb, h0, h1, h2⟩ := HA2.out k hlt'
      by_cases h8 : 8 ≤ n5
      · go_wp2_with fail
        all_goals
          go_ret
          exact ⟨_, rfl, join_done (HO.out.alloc _) HN5.out (by omega) (join_full HN5.out h8), HW.out.alloc hz _⟩
      · have h8' : n5 < 8 := by omega
        cases hh : hasA (addA (thoseA l true) ((thoseA m false).take k)) (thoseA m false)[k].nm
        · have HS := Lib.hid hh
          clear hh
          go_wp2_with fail
          refine (has_at (addA (thoseA l true) ((thoseA m false).take k)) A5 n5 c5 _ _ HS.out HN5.out (by omega) (H5.out.on ((Below.refl _ _).alloc (Nat.le_refl _) _))).mono ?_
          rintro e w3 ⟨rfl, b3⟩
          have B3 := Lib.hid b3
          clear b3
          have B0 := Lib.hid ((Below.refl wr.heap.size wr).alloc (Nat.le_refl _) (.cells #[.string (thoseA m false)[k].nm, .string (thoseA m false)[k].vl, .bool (thoseA m false)[k].st] 26))
          have K3 := Lib.hid ((Blk.new wr (thoseA m false)[k]).below B3.out (by simp))
          have c0 := K3.out.c0
          have c1 := K3.out.c1
          have c2 := K3.out.c2
          have hz3 : wr.heap.size < w3.heap.size := K3.out.lt
          have O3 := Lib.hid ((HO.out.alloc (.cells #[.string (thoseA m false)[k].nm, .string (thoseA m false)[k].vl, .bool (thoseA m false)[k].st] 26)).below B3.out (Nat.le_refl _))
          have A3 := Lib.hid ((HA2.out.on B0.out).on B3.out)
          have W3 := Lib.hid ((HW.out.alloc hz _).trans (B3.out.mono (by simp; omega)))
          have hz4 : w.heap.size ≤ w3.heap.size := W3.out.size
          go_wp2_with (at_builtin; refine wp_app rfl _ _ rfl (v := .slice A5 n5 c5) (l := addA (thoseA l true) ((thoseA m false).take k)) (m := [(thoseA m false)[k]]) (base := w.heap.size) rfl (O3.out.alloc _) rfl rfl (fun e => by cases e) (Holds.one (Blk.new _ _)) (by have := HN5.out; simp; omega) (by simp; omega) ?_; intro v' w4 hown' hgrow hat)
          go_roundw
          case rel => exact ⟨k + 1, by omega, by go_num, Lib.hid ((W3.out.alloc hz4 _).grown hgrow (by simp; omega) (fun j hj => (World.ownsRow.lt O3.out j hj).1)), Lib.hid (by rw [addA_take_snoc_no hlt' HS.out]; exact hown'), Lib.hid (apart_holds A3.out HAP.out hgrow), Lib.hid (apart_next A3.out hlt' HAP.out hat)⟩
          case measure => simp [intOf]; omega
        · have HS := Lib.hid hh
          clear hh
          go_wp2_with fail
          refine (has_at (addA (thoseA l true) ((thoseA m false).take k)) A5 n5 c5 _ _ HS.out HN5.out (by omega) (H5.out.on ((Below.refl _ _).alloc (Nat.le_refl _) _))).mono ?_
          rintro e w3 ⟨rfl, b3⟩
          have B3 := Lib.hid b3
          clear b3
          go_wp2_with fail
          go_roundw
          case rel => exact ⟨k + 1, by omega, by go_num, Lib.hid ((HW.out.alloc hz _).trans (B3.out.mono (by simp; omega))), Lib.hid (by rw [addA_take_snoc_yes hlt' HS.out]; exact (HO.out.alloc _).below B3.out (Nat.le_refl _)), Lib.hid ((HA2.out.on ((Below.refl _ _).alloc (Nat.le_refl _) _)).on B3.out), HAP⟩
          case measure => simp [intOf]; omega
    · obtain rfl : k = n2 := by omega
      by_cases h8 : n5 ≤ 8
      · go_wp2_with fail
        all_goals
          go_ret
          exact ⟨_, rfl, join_done HO.out HN5.out (by omega) (join_all HN2.out), HW.out⟩
      · go_wp2_with fail
        all_goals
          go_ret
          exact ⟨_, rfl, join_done HO.out HN5.out (by omega) (join_all HN2.out), HW.out⟩
end Go.Proofs.Ytadodhlfahkplaa.P3
