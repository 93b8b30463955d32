/- What attr.May answers, for every list that isn't too long. -/
import Derived.Deep.RegionHeld3
import Derived.Test.YtihjdmdafiifhaaGreatM9
set_option linter.unusedVariables false
set_option linter.unusedSimpArgs false
set_option linter.unusedVariables false
set_option linter.unusedSimpArgs false
namespace Go.Proofs.YtihjdmdafiifhaaGreat.P3
open Go.RowKit

theorem nmay_at (s : ByteArray) (w : World) {r : Bool} (h : P1.nameB s.data.toList = r) (hs : s.size ≤ maxLen) : Calls Tryz.prog 72 #[.string s] w fun e w' => e = .returned (.bool r) ∧ w = w' := by
  subst h; exact P1.may_any s w hs
theorem ntext_at (s : ByteArray) (w : World) {r : Bool} (h : P1.textB s.data.toList = r) (hs : s.size ≤ maxLen) : Calls Tryz.prog 56 #[.string s] w fun e w' => e = .returned (.bool r) ∧ w = w' := by
  subst h; exact P1.text_any s w hs
theorem quiet_left {P : Program} {f : FuncId} {args : Array Value} {w : World} {n : Nat} {v : Value}
    (h : Calls P f args (w.drewN n) fun e w' => e = .returned v ∧ w.drewN n = w') : Calls P f args (w.drewN n) fun e w' => e = .returned v ∧ ∃ m, w' = w.drewN m :=
  h.mono fun _ _ ⟨he, hm⟩ => ⟨he, n, hm.symm⟩

theorem may_below {a w w' : World} {B : Nat} {o : Obj} (h : Below B a w) (hB : B ≤ w.heap.size) (n : Nat) (h2 : Below ((w.alloc o).drewN n).heap.size ((w.alloc o).drewN n) w') : Below B a w' :=
  (Below_drewN (h.alloc hB o) n).trans (h2.mono (by show B ≤ (w.alloc o).heap.size; simp; omega))
/-- each text is as long as a text may be -/
def Wf (l : List At) : Prop := ∀ a ∈ l, a.nm.size ≤ maxLen ∧ a.vl.size ≤ maxLen
theorem Wf.at_ {l : List At} (h : Wf l) {k : Nat} (hk : k < l.length) : l[k].nm.size ≤ maxLen ∧ l[k].vl.size ≤ maxLen := h _ (List.getElem_mem hk)

set_option maxHeartbeats 1000000 in
theorem may_any (l : List At) (A : Option Addr) (n c : Nat) (w : World) (hn : l.length = n) (hl : n ≤ 1000000) (hnc : n ≤ c) (hwf : Wf l) (H : Holds w w.heap.size A l) :
    Calls Tryz.prog 55 #[.slice A n c] w fun e w' => e = .returned (.bool (mayA l)) ∧ Below w.heap.size w w' := by
  have HH := Lib.hid H
  have HN := Lib.hid hn
  have HF := Lib.hid hwf
  clear H hn hwf
  by_cases h8 : 8 < n
  · go_enter Tryz.func55, Tryz.ntmps55
    go_wp2_with fail
    go_ret
    exact ⟨ret_bool (mayA_long (by have := HN.out; omega)).symm, Below.refl _ _⟩
  · go_enter Tryz.func55, Tryz.ntmps55
    go_wp2_with fail
    go_loopw [10] (fun i wr => ∃ k : Nat, k ≤ n ∧ i = .int .i64 k ∧ Hid (Below w.heap.size w wr) ∧ Hid (GoodTo l k)) (fun i _ => n - (intOf i).toNat)
    case atStart => exact ⟨0, by omega, rfl, Lib.hid (Below.refl _ _), Lib.hid (GoodTo.zero _)⟩
    case round =>
      obtain ⟨k, hk, rfl, HW, HG⟩ := hrel
      have hz : w.heap.size ≤ wr.heap.size := HW.out.size
      by_cases hlt : k < n
      · have hlt' : k < l.length := by have := HN.out; omega
        obtain ⟨b, o, rfl, hb, h0, h1, h2⟩ := (HH.out.below HW.out (Nat.le_refl _)) k hlt'
        obtain ⟨hs1, hs2⟩ := HF.out.at_ hlt'
        cases hnm : P1.nameB l[k].nm.data.toList
        · have HNM := Lib.hid hnm
          clear hnm
          go_wp2_with fail
          go_quiet ((go_at_call 72; exact quiet_left (nmay_at _ _ HNM.out hs1)))
          go_wp2_with fail
          go_ret
          exact ⟨ret_bool (mayA_bad hlt' (by rw [goodA_at hlt', HNM.out]; rfl)).symm, Below_drewN (HW.out.alloc hz _) _⟩
        · have HNM := Lib.hid hnm
          clear hnm
          cases htx : P1.textB l[k].vl.data.toList
          · have HTX := Lib.hid htx
            clear htx
            go_wp2_with fail
            go_quiet ((first | (go_at_call 72; exact quiet_left (nmay_at _ _ HNM.out hs1)) | (go_at_call 56; exact quiet_left (ntext_at _ _ HTX.out hs2))))
            go_wp2_with fail
            go_ret
            exact ⟨ret_bool (mayA_bad hlt' (by rw [goodA_at hlt', HTX.out]; simp)).symm, Below_drewN (HW.out.alloc hz _) _⟩
          · have HTX := Lib.hid htx
            clear htx
            cases hh : hasA (l.take k) l[k].nm
            · have HS := Lib.hid hh
              clear hh
              go_wp2_with fail
              have K3 := Lib.hid (Blk.new wr l[k])
              have i0 : (0 : Int) ≤ (k : Int) := by omega
              have i1 : (k : Int) ≤ (c : Int) := by omega
              go_region_held3 (fun w' => w'.cell? ⟨wr.heap.size, 0, none⟩ = some (.string l[k].nm) ∧ w'.cell? ⟨wr.heap.size, 1, none⟩ = some (.string l[k].vl)) (go_keep) ((first
                | (go_at_call 72; refine (nmay_at _ _ HNM.out hs1).mono ?_; rintro e w' ⟨rfl, rfl⟩)
                | (go_at_call 56; refine (ntext_at _ _ HTX.out hs2).mono ?_; rintro e w' ⟨rfl, rfl⟩)
                | (go_at_call 77; refine (has_at (l.take k) (some ⟨b, o, none⟩) k c _ _ HS.out (by simp; omega) (by omega) (((HH.out.take k).on HW.out).on (by first | exact Below_drewN ((Below.refl _ _).alloc (Nat.le_refl _) _) _ | exact Below.drew ((Below.refl _ _).alloc (Nat.le_refl _) _)))).mono ?_; rintro e w3 ⟨rfl, b3⟩; have KK : Blk w3 wr.heap.size l[k] := Blk.below (by exact K3.out) b3 (by simp); have k0 := KK.c0; have k1 := KK.c1; have B3 := Lib.hid b3; clear b3)))
              go_wp2_with fail
              go_roundw
              case rel => exact ⟨k + 1, by omega, by go_num, Lib.hid (may_below HW.out hz _ B3.out), Lib.hid (HG.out.next (by rw [goodA_at hlt', HNM.out, HTX.out, HS.out]; rfl))⟩
              case measure => simp [intOf]; omega
            · have HS := Lib.hid hh
              clear hh
              go_wp2_with fail
              have K3 := Lib.hid (Blk.new wr l[k])
              have i0 : (0 : Int) ≤ (k : Int) := by omega
              have i1 : (k : Int) ≤ (c : Int) := by omega
              go_region_held3 (fun w' => w'.cell? ⟨wr.heap.size, 0, none⟩ = some (.string l[k].nm) ∧ w'.cell? ⟨wr.heap.size, 1, none⟩ = some (.string l[k].vl)) (go_keep) ((first
                | (go_at_call 72; refine (nmay_at _ _ HNM.out hs1).mono ?_; rintro e w' ⟨rfl, rfl⟩)
                | (go_at_call 56; refine (ntext_at _ _ HTX.out hs2).mono ?_; rintro e w' ⟨rfl, rfl⟩)
                | (go_at_call 77; refine (has_at (l.take k) (some ⟨b, o, none⟩) k c _ _ HS.out (by simp; omega) (by omega) (((HH.out.take k).on HW.out).on (by first | exact Below_drewN ((Below.refl _ _).alloc (Nat.le_refl _) _) _ | exact Below.drew ((Below.refl _ _).alloc (Nat.le_refl _) _)))).mono ?_; rintro e w3 ⟨rfl, b3⟩; have KK : Blk w3 wr.heap.size l[k] := Blk.below (by exact K3.out) b3 (by simp); have k0 := KK.c0; have k1 := KK.c1; have B3 := Lib.hid b3; clear b3)))
              go_wp2_with fail
              go_ret
              exact ⟨ret_bool (mayA_bad hlt' (by rw [goodA_at hlt', HS.out]; simp)).symm, may_below HW.out hz _ B3.out⟩
      · obtain rfl : k = n := by omega
        go_wp2_with fail
        go_ret
        exact ⟨ret_bool (by rw [mayA_ok HG.out HN.out]; simp; omega), HW.out⟩
end Go.Proofs.YtihjdmdafiifhaaGreat.P3

/- What the reference's May and Same answer, for every list that isn't too long. -/
set_option linter.unusedVariables false
set_option linter.unusedSimpArgs false
namespace Go.Proofs.YtihjdmdafiifhaaGreat.P3
open Go.RowKit

theorem rname_at (s : ByteArray) (w : World) {r : Bool} (h : P1.nameB s.data.toList = r) (hs : s.size ≤ maxLen) : Calls Tryz.prog 59 #[.string s] w fun e w' => e = .returned (.bool r) ∧ w = w' := by
  subst h; exact P1.rname_any s w hs
theorem rtext_at (s : ByteArray) (w : World) {r : Bool} (h : P1.textB s.data.toList = r) (hs : s.size ≤ maxLen) : Calls Tryz.prog 39 #[.string s] w fun e w' => e = .returned (.bool r) ∧ w = w' := by
  subst h; exact P1.rtext_any s w hs

theorem hasA_of {l : List At} {s : ByteArray} {j k : Nat} (hj : j < l.length) (hjk : j < k) (he : (l[j].nm.toList == s.toList) = true) : hasA (l.take k) s = true :=
  hasA_iff.2 ⟨l[j], List.mem_take_iff_getElem.2 ⟨j, by omega, rfl⟩, by simpa using he⟩
theorem hasA_no {l : List At} {s : ByteArray} (h : findA l s = none) : hasA l s = false := by unfold hasA; rw [h]; rfl

set_option maxHeartbeats 1000000 in
theorem rmay_any (l : List At) (A : Option Addr) (n c : Nat) (w : World) (hn : l.length = n) (hl : n ≤ 1000000) (hwf : Wf l) (H : Holds w w.heap.size A l) :
    Calls Tryz.prog 38 #[.slice A n c] w fun e w' => e = .returned (.bool (mayA l)) ∧ Below w.heap.size w w' := by
  have HH := Lib.hid H
  have HN := Lib.hid hn
  have HF := Lib.hid hwf
  clear H hn hwf
  go_enter Tryz.func38, Tryz.ntmps38
  go_wp2_with fail
  go_loopw [3] (fun i wr => ∃ k : Nat, k ≤ n ∧ i = .int .i64 k ∧ Hid (Below w.heap.size w wr) ∧ Hid (GoodTo l k)) (fun i _ => n - (intOf i).toNat)
  case atStart => exact ⟨0, by omega, rfl, Lib.hid (Below.refl _ _), Lib.hid (GoodTo.zero _)⟩
  case round =>
    obtain ⟨k, hk, rfl, HW, HG⟩ := hrel
    by_cases hlt : k < n
    · have hlt' : k < l.length := by have := HN.out; omega
      obtain ⟨b, o, hA, hb, h0, h1, h2⟩ := (HH.out.below HW.out (Nat.le_refl _)) k hlt'
      subst hA
      obtain ⟨hs1, hs2⟩ := HF.out.at_ hlt'
      cases hnm : P1.nameB l[k].nm.data.toList
      · have HNM := Lib.hid hnm
        clear hnm
        go_wp2_with fail
        refine (rname_at _ _ HNM.out hs1).mono ?_
        rintro e w' ⟨rfl, rfl⟩
        go_wp2_with fail
        refine (P1.rtext_any _ _ hs2).mono ?_
        rintro e w' ⟨rfl, rfl⟩
        go_wp2_with fail
        go_ret
        exact ⟨ret_bool (mayA_bad hlt' (by rw [goodA_at hlt', HNM.out]; rfl)).symm, HW.out⟩
      · have HNM := Lib.hid hnm
        clear hnm
        cases htx : P1.textB l[k].vl.data.toList
        · have HTX := Lib.hid htx
          clear htx
          go_wp2_with fail
          refine (rname_at _ _ HNM.out hs1).mono ?_
          rintro e w' ⟨rfl, rfl⟩
          go_wp2_with fail
          refine (rtext_at _ _ HTX.out hs2).mono ?_
          rintro e w' ⟨rfl, rfl⟩
          go_wp2_with fail
          go_ret
          exact ⟨ret_bool (mayA_bad hlt' (by rw [goodA_at hlt', HTX.out]; simp)).symm, HW.out⟩
        · have HTX := Lib.hid htx
          clear htx
          go_wp2_with fail
          refine (rname_at _ _ HNM.out hs1).mono ?_
          rintro e w' ⟨rfl, rfl⟩
          go_wp2_with fail
          refine (rtext_at _ _ HTX.out hs2).mono ?_
          rintro e w' ⟨rfl, rfl⟩
          go_wp2_with fail
          obtain ⟨wo, rfl⟩ : ∃ wo : World, wo = wr := ⟨_, rfl⟩
          go_loopw [6] (fun i wr => ∃ j : Nat, j ≤ k ∧ i = .int .i64 j ∧ Hid (Below w.heap.size w wr) ∧ Hid (findA (l.take j) l[k].nm = none)) (fun i _ => k - (intOf i).toNat)
          case atStart => exact ⟨0, by omega, rfl, HW, Lib.hid (by simp [findA])⟩
          case round =>
            obtain ⟨j, hj, rfl, HWi, HFi⟩ := hrel
            by_cases hjk : j < k
            · have hjl : j < l.length := by omega
              obtain ⟨b', o', hA', hb', g0, g1, g2⟩ := (HH.out.below HWi.out (Nat.le_refl _)) j hjl
              obtain ⟨b'', o'', hA'', hb'', q0, q1, q2⟩ := (HH.out.below HWi.out (Nat.le_refl _)) k hlt'
              injection hA' with hA'
              injection hA' with e1 e2
              subst e1; subst e2
              injection hA'' with hA''
              injection hA'' with e1 e2
              subst e1; subst e2
              cases he : (l[j].nm.toList == l[k].nm.toList)
              · have HE := Lib.hid he
                go_wp2_with fail
                go_quiet (fail)
                go_wp2_with fail
                go_roundw
                case rel => exact ⟨j + 1, by omega, by go_num, Lib.hid (Below_drewN HWi.out _), Lib.hid (findA_next HFi.out hjl HE.out)⟩
                case measure => simp [intOf]; omega
              · have HE := Lib.hid he
                go_wp2_with fail
                go_quiet (fail)
                go_wp2_with fail
                go_ret
                exact ⟨ret_bool (mayA_bad hlt' (by rw [goodA_at hlt', hasA_of hjl hjk HE.out]; simp)).symm, Below_drewN HWi.out _⟩
            · obtain rfl : j = k := by omega
              go_wp2_with fail
              go_roundw
              case rel => exact ⟨j + 1, by omega, by go_num, HWi, Lib.hid (HG.out.next (by rw [goodA_at hlt', HNM.out, HTX.out, hasA_no HFi.out]; rfl))⟩
              case measure => simp [intOf]; omega
    · obtain rfl : k = n := by omega
      go_wp2_with fail
      go_ret
      exact ⟨ret_bool (by rw [mayA_ok HG.out HN.out]; exact decide_eq_decide.mpr (by omega)), HW.out⟩
end Go.Proofs.YtihjdmdafiifhaaGreat.P3

/- Which tags name.Void and its reference call void. No condition. -/
set_option linter.unusedVariables false
set_option linter.unusedSimpArgs false
namespace Go.Proofs.YtihjdmdafiifhaaGreat.P1
open Go.RowKit

theorem void_any (s : ByteArray) (w : World) : Calls Tryz.prog 50 #[.string s] w fun e w' => e = .returned (.bool (voidB s.data.toList)) ∧ w = w' := by
  cases h1 : (s.toList == [98, 114])
  · cases h2 : (s.toList == [104, 114])
    · cases h3 : (s.toList == [105, 109, 103])
      · cases h4 : (s.toList == [105, 110, 112, 117, 116])
        all_goals
          go_enter Tryz.func50, Tryz.ntmps50
          go_wp2_with fail
          go_ret
          exact ⟨ret_bool (voidB_at (by simp [h1, h2, h3, h4])), rfl⟩
      · go_enter Tryz.func50, Tryz.ntmps50
        go_wp2_with fail
        all_goals (go_ret; exact ⟨ret_bool (voidB_at (by simp [h1, h2, h3])), rfl⟩)
    · go_enter Tryz.func50, Tryz.ntmps50
      go_wp2_with fail
      all_goals (go_ret; exact ⟨ret_bool (voidB_at (by simp [h1, h2])), rfl⟩)
  · go_enter Tryz.func50, Tryz.ntmps50
    go_wp2_with fail
    all_goals (go_ret; exact ⟨ret_bool (voidB_at (by simp [h1])), rfl⟩)
theorem rvoid_any (s : ByteArray) (w : World) : Calls Tryz.prog 60 #[.string s] w fun e w' => e = .returned (.bool (voidB s.data.toList)) ∧ w = w' := by
  cases h1 : (s.toList == [98, 114])
  · cases h2 : (s.toList == [104, 114])
    · cases h3 : (s.toList == [105, 109, 103])
      · cases h4 : (s.toList == [105, 110, 112, 117, 116])
        all_goals
          go_enter Tryz.func60, Tryz.ntmps60
          go_wp2_with fail
          go_ret
          exact ⟨ret_bool (voidB_at (by simp [h1, h2, h3, h4])), rfl⟩
      · go_enter Tryz.func60, Tryz.ntmps60
        go_wp2_with fail
        all_goals (go_ret; exact ⟨ret_bool (voidB_at (by simp [h1, h2, h3])), rfl⟩)
    · go_enter Tryz.func60, Tryz.ntmps60
      go_wp2_with fail
      all_goals (go_ret; exact ⟨ret_bool (voidB_at (by simp [h1, h2])), rfl⟩)
  · go_enter Tryz.func60, Tryz.ntmps60
    go_wp2_with fail
    all_goals (go_ret; exact ⟨ret_bool (voidB_at (by simp [h1])), rfl⟩)
end Go.Proofs.YtihjdmdafiifhaaGreat.P1
