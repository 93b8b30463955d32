/- Which tags name.Void and its reference call void. No condition. -/
import Derived.Deep.RegionHeld3
import Derived.Test.YtbdcbjeeaebfeaaM8
set_option linter.unusedVariables false
set_option linter.unusedSimpArgs false
namespace Go.Proofs.Ytbdcbjeeaebfeaa.P1
open Go.RowKit

theorem void_any (s : ByteArray) (w : World) : Calls Try.prog 42 #[.string s] w fun e w' => e = .returned (.bool (voidB s.data.toList)) ∧ w = w' := by
  cases h1 : (s.toList == [98, 114])
  · cases h2 : (s.toList == [104, 114])
    · cases h3 : (s.toList == [105, 109, 103])
      · cases h4 : (s.toList == [105, 110, 112, 117, 116])
        all_goals
          go_enter Try.func42, Try.ntmps42
          go_wp2_with fail
          go_ret
          exact ⟨ret_bool (voidB_at (by simp [h1, h2, h3, h4])), rfl⟩
      · go_enter Try.func42, Try.ntmps42
        go_wp2_with fail
        all_goals (go_ret; exact ⟨ret_bool (voidB_at (by simp [h1, h2, h3])), rfl⟩)
    · go_enter Try.func42, Try.ntmps42
      go_wp2_with fail
      all_goals (go_ret; exact ⟨ret_bool (voidB_at (by simp [h1, h2])), rfl⟩)
  · go_enter Try.func42, Try.ntmps42
    go_wp2_with fail
    all_goals (go_ret; exact ⟨ret_bool (voidB_at (by simp [h1])), rfl⟩)
theorem rvoid_any (s : ByteArray) (w : World) : Calls Try.prog 34 #[.string s] w fun e w' => e = .returned (.bool (voidB s.data.toList)) ∧ w = w' := by
  cases h1 : (s.toList == [98, 114])
  · cases h2 : (s.toList == [104, 114])
    · cases h3 : (s.toList == [105, 109, 103])
      · cases h4 : (s.toList == [105, 110, 112, 117, 116])
        all_goals
          go_enter Try.func34, Try.ntmps34
          go_wp2_with fail
          go_ret
          exact ⟨ret_bool (voidB_at (by simp [h1, h2, h3, h4])), rfl⟩
      · go_enter Try.func34, Try.ntmps34
        go_wp2_with fail
        all_goals (go_ret; exact ⟨ret_bool (voidB_at (by simp [h1, h2, h3])), rfl⟩)
    · go_enter Try.func34, Try.ntmps34
      go_wp2_with fail
      all_goals (go_ret; exact ⟨ret_bool (voidB_at (by simp [h1, h2])), rfl⟩)
  · go_enter Try.func34, Try.ntmps34
    go_wp2_with fail
    all_goals (go_ret; exact ⟨ret_bool (voidB_at (by simp [h1])), rfl⟩)
end Go.Proofs.Ytbdcbjeeaebfeaa.P1

/- What attr.Find and attr.has answer, for every list that isn't too long. -/
namespace Go.Proofs.Ytbdcbjeeaebfeaa.P3
open Go.RowKit

theorem ret_find {o o' : Option At} (h : o = o') : Ending.returned (.tuple #[.agg #[.string (o.getD At.none).nm, .string (o.getD At.none).vl, .bool (o.getD At.none).st], .bool o.isSome]) = .returned (.tuple #[.agg #[.string (o'.getD At.none).nm, .string (o'.getD At.none).vl, .bool (o'.getD At.none).st], .bool o'.isSome]) := by rw [h]

set_option maxHeartbeats 400000 in
theorem find_any (l : List At) (A : Option Addr) (n c : Nat) (s : ByteArray) (w : World) (hn : l.length = n) (hl : n ≤ 1000000) (H : Holds w w.heap.size A l) :
    Calls Try.prog 71 #[.slice A n c, .string s] w fun e w' => e = .returned (.tuple #[.agg #[.string ((findA l s).getD At.none).nm, .string ((findA l s).getD At.none).vl, .bool ((findA l s).getD At.none).st], .bool (findA l s).isSome]) ∧ Below w.heap.size w w' := by
  have HH := Lib.hid H
  have HN0 := Lib.hid hn
  clear H hn
  go_enter Try.func71, Try.ntmps71
  go_wp2_with fail
  go_loopw [10] (fun i wr => ∃ k : Nat, k ≤ n ∧ i = .int .i64 k ∧ Hid (Below w.heap.size w wr) ∧ Hid (Blk wr w.heap.size At.none) ∧ Hid (findA (l.take k) s = none)) (fun i _ => n - (intOf i).toNat)
  case atStart => exact ⟨0, by omega, rfl, Lib.hid ((Below.refl _ _).alloc (Nat.le_refl _) _), Lib.hid (Blk.new w At.none), Lib.hid (by simp [findA])⟩
  case round =>
    obtain ⟨k, hk, rfl, HW, HB, HN⟩ := hrel
    have hz : w.heap.size < wr.heap.size := HB.out.lt
    have c0 := HB.out.c0
    have c1 := HB.out.c1
    have c2 := HB.out.c2
    have f0 := HB.out.frozen 0
    have f1 := HB.out.frozen 1
    have f2 := HB.out.frozen 2
    by_cases hlt : k < n
    · have hlt' : k < l.length := by have := HN0.out; omega
      obtain ⟨b, o, rfl, hb, h0, h1, h2⟩ := (HH.out.below HW.out (Nat.le_refl _)) k hlt'
      go_wp2_with fail
      · refine bodyPost_ret (v := .tuple #[.agg #[.string l[k].nm, .string l[k].vl, .bool l[k].st], .bool true]) (by simp [results, Try.results71, go_sem, c0, c1, c2, hz]) rfl ⟨ret_find (o := some l[k]) (findA_some HN.out hlt' ‹_›).symm, ?_⟩
        refine Below.alloc (Below.setCell (Below.setCell (Below.setCell HW.out ?_ _) ?_ _) ?_ _) ?_ _ <;> first | exact Nat.le_refl _ | (simp; omega)
      · go_roundw
        case rel => exact ⟨k + 1, by omega, by go_num, Lib.hid (HW.out.alloc (by omega) _), Lib.hid (HB.out.alloc _), Lib.hid (findA_next HN.out hlt' ‹_›)⟩
        case measure => simp [intOf]; omega
    · obtain rfl : k = n := by omega
      have HN2 := Lib.hid (findA_none HN0.out HN.out)
      go_wp2_with fail
      refine bodyPost_ret (v := .tuple #[.agg #[.string At.none.nm, .string At.none.vl, .bool At.none.st], .bool false]) (by simp [results, Try.results71, go_sem, c0, c1, c2, At.none]) rfl ⟨ret_find (o := none) HN2.out.symm, ?_⟩
      refine Below.setCell (Below.setCell (Below.setCell HW.out ?_ _) ?_ _) ?_ _ <;> exact Nat.le_refl _

theorem has_any (l : List At) (A : Option Addr) (n c : Nat) (s : ByteArray) (w : World) (hn : l.length = n) (hl : n ≤ 1000000) (H : Holds w w.heap.size A l) :
    Calls Try.prog 65 #[.slice A n c, .string s] w fun e w' => e = .returned (.bool (hasA l s)) ∧ Below w.heap.size w w' := by
  have HH := Lib.hid H
  have HN0 := Lib.hid hn
  clear H hn
  go_enter Try.func65, Try.ntmps65
  go_wp2_with fail
  refine (find_any l A n c s _ HN0.out hl HH.out).mono ?_
  rintro e w1 ⟨rfl, b1⟩
  have B1 := Lib.hid b1
  clear b1
  go_wp2_with fail
  go_ret
  exact ⟨rfl, B1.out.alloc B1.out.size _⟩
theorem has_at (l : List At) (A : Option Addr) (n c : Nat) (s : ByteArray) (w : World) {r : Bool} (hr : hasA l s = r) (hn : l.length = n) (hl : n ≤ 1000000) (H : Holds w w.heap.size A l) :
    Calls Try.prog 65 #[.slice A n c, .string s] w fun e w' => e = .returned (.bool r) ∧ Below w.heap.size w w' := by
  subst hr; exact has_any l A n c s w hn hl H
end Go.Proofs.Ytbdcbjeeaebfeaa.P3

/- What attr.May answers, for every list that isn't too long. -/
namespace Go.Proofs.Ytbdcbjeeaebfeaa.P3
open Go.RowKit

theorem nmay_at (s : ByteArray) (w : World) {r : Bool} (h : P1.nameB s.data.toList = r) (hs : s.size ≤ maxLen) : Calls Try.prog 58 #[.string s] w fun e w' => e = .returned (.bool r) ∧ w = w' := by
  subst h; exact P1.may_any s w hs
theorem ntext_at (s : ByteArray) (w : World) {r : Bool} (h : P1.textB s.data.toList = r) (hs : s.size ≤ maxLen) : Calls Try.prog 57 #[.string s] w fun e w' => e = .returned (.bool r) ∧ w = w' := by
  subst h; exact P1.text_any s w hs
theorem quiet_left {P : Program} {f : FuncId} {args : Array Value} {w : World} {n : Nat} {v : Value}
    (h : Calls P f args (w.drewN n) fun e w' => e = .returned v ∧ w.drewN n = w') : Calls P f args (w.drewN n) fun e w' => e = .returned v ∧ ∃ m, w' = w.drewN m :=
  h.mono fun _ _ ⟨he, hm⟩ => ⟨he, n, hm.symm⟩

theorem may_below {a w w' : World} {B : Nat} {o : Obj} (h : Below B a w) (hB : B ≤ w.heap.size) (n : Nat) (h2 : Below ((w.alloc o).drewN n).heap.size ((w.alloc o).drewN n) w') : Below B a w' :=
  (Below_drewN (h.alloc hB o) n).trans (h2.mono (by show B ≤ (w.alloc o).heap.size; simp; omega))
/-- each text is as long as a text may be -/
def Wf (l : List At) : Prop := ∀ a ∈ l, a.nm.size ≤ maxLen ∧ a.vl.size ≤ maxLen
theorem Wf.at_ {l : List At} (h : Wf l) {k : Nat} (hk : k < l.length) : l[k].nm.size ≤ maxLen ∧ l[k].vl.size ≤ maxLen := h _ (List.getElem_mem hk)

set_option maxHeartbeats 1000000 in
theorem may_any (l : List At) (A : Option Addr) (n c : Nat) (w : World) (hn : l.length = n) (hl : n ≤ 1000000) (hnc : n ≤ c) (hwf : Wf l) (H : Holds w w.heap.size A l) :
    Calls Try.prog 59 #[.slice A n c] w fun e w' => e = .returned (.bool (mayA l)) ∧ Below w.heap.size w w' := by
  have HH := Lib.hid H
  have HN := Lib.hid hn
  have HF := Lib.hid hwf
  clear H hn hwf
  by_cases h8 : 8 < n
  · go_enter Try.func59, Try.ntmps59
    go_wp2_with fail
    go_ret
    exact ⟨ret_bool (mayA_long (by have := HN.out; omega)).symm, Below.refl _ _⟩
  · go_enter Try.func59, Try.ntmps59
    go_wp2_with fail
    go_loopw [10] (fun i wr => ∃ k : Nat, k ≤ n ∧ i = .int .i64 k ∧ Hid (Below w.heap.size w wr) ∧ Hid (GoodTo l k)) (fun i _ => n - (intOf i).toNat)
    case atStart => exact ⟨0, by omega, rfl, Lib.hid (Below.refl _ _), Lib.hid (GoodTo.zero _)⟩
    case round =>
      obtain ⟨k, hk, rfl, HW, HG⟩ := hrel
      have hz : w.heap.size ≤ wr.heap.size := HW.out.size
      by_cases hlt : k < n
      · have hlt' : k < l.length := by have := HN.out; omega
        obtain ⟨b, o, rfl, hb, h0, h1, h2⟩ := (HH.out.below HW.out (Nat.le_refl _)) k hlt'
        obtain ⟨hs1, hs2⟩ := HF.out.at_ hlt'
        cases hnm : P1.nameB l[k].nm.data.toList
        · have HNM := Lib.hid hnm
          clear hnm
          go_wp2_with fail
          go_quiet ((go_at_call 58; exact quiet_left (nmay_at _ _ HNM.out hs1)))
          go_wp2_with fail
          go_ret
          exact ⟨ret_bool (mayA_bad hlt' (by rw [goodA_at hlt', HNM.out]; rfl)).symm, Below_drewN (HW.out.alloc hz _) _⟩
        · have HNM := Lib.hid hnm
          clear hnm
          cases htx : P1.textB l[k].vl.data.toList
          · have HTX := Lib.hid htx
            clear htx
            go_wp2_with fail
            go_quiet ((first | (go_at_call 58; exact quiet_left (nmay_at _ _ HNM.out hs1)) | (go_at_call 57; exact quiet_left (ntext_at _ _ HTX.out hs2))))
            go_wp2_with fail
            go_ret
            exact ⟨ret_bool (mayA_bad hlt' (by rw [goodA_at hlt', HTX.out]; simp)).symm, Below_drewN (HW.out.alloc hz _) _⟩
          · have HTX := Lib.hid htx
            clear htx
            cases hh : hasA (l.take k) l[k].nm
            · have HS := Lib.hid hh
              clear hh
              go_wp2_with fail
              have K3 := Lib.hid (Blk.new wr l[k])
              have i0 : (0 : Int) ≤ (k : Int) := by omega
              have i1 : (k : Int) ≤ (c : Int) := by omega
              go_region_held3 (fun w' => w'.cell? ⟨wr.heap.size, 0, none⟩ = some (.string l[k].nm) ∧ w'.cell? ⟨wr.heap.size, 1, none⟩ = some (.string l[k].vl)) (go_keep) ((first
                | (go_at_call 58; refine (nmay_at _ _ HNM.out hs1).mono ?_; rintro e w' ⟨rfl, rfl⟩)
                | (go_at_call 57; refine (ntext_at _ _ HTX.out hs2).mono ?_; rintro e w' ⟨rfl, rfl⟩)
                | (go_at_call 65; refine (has_at (l.take k) (some ⟨b, o, none⟩) k c _ _ HS.out (by simp; omega) (by omega) (((HH.out.take k).on HW.out).on (by first | exact Below_drewN ((Below.refl _ _).alloc (Nat.le_refl _) _) _ | exact Below.drew ((Below.refl _ _).alloc (Nat.le_refl _) _)))).mono ?_; rintro e w3 ⟨rfl, b3⟩; have KK : Blk w3 wr.heap.size l[k] := Blk.below (by exact K3.out) b3 (by simp); have k0 := KK.c0; have k1 := KK.c1; have B3 := Lib.hid b3; clear b3)))
              go_wp2_with fail
              go_roundw
              case rel => exact ⟨k + 1, by omega, by go_num, Lib.hid (may_below HW.out hz _ B3.out), Lib.hid (HG.out.next (by rw [goodA_at hlt', HNM.out, HTX.out, HS.out]; rfl))⟩
              case measure => simp [intOf]; omega
            · have HS := Lib.hid hh
              clear hh
              go_wp2_with fail
              have K3 := Lib.hid (Blk.new wr l[k])
              have i0 : (0 : Int) ≤ (k : Int) := by omega
              have i1 : (k : Int) ≤ (c : Int) := by omega
              go_region_held3 (fun w' => w'.cell? ⟨wr.heap.size, 0, none⟩ = some (.string l[k].nm) ∧ w'.cell? ⟨wr.heap.size, 1, none⟩ = some (.string l[k].vl)) (go_keep) ((first
                | (go_at_call 58; refine (nmay_at _ _ HNM.out hs1).mono ?_; rintro e w' ⟨rfl, rfl⟩)
                | (go_at_call 57; refine (ntext_at _ _ HTX.out hs2).mono ?_; rintro e w' ⟨rfl, rfl⟩)
                | (go_at_call 65; refine (has_at (l.take k) (some ⟨b, o, none⟩) k c _ _ HS.out (by simp; omega) (by omega) (((HH.out.take k).on HW.out).on (by first | exact Below_drewN ((Below.refl _ _).alloc (Nat.le_refl _) _) _ | exact Below.drew ((Below.refl _ _).alloc (Nat.le_refl _) _)))).mono ?_; rintro e w3 ⟨rfl, b3⟩; have KK : Blk w3 wr.heap.size l[k] := Blk.below (by exact K3.out) b3 (by simp); have k0 := KK.c0; have k1 := KK.c1; have B3 := Lib.hid b3; clear b3)))
              go_wp2_with fail
              go_ret
              exact ⟨ret_bool (mayA_bad hlt' (by rw [goodA_at hlt', HS.out]; simp)).symm, may_below HW.out hz _ B3.out⟩
      · obtain rfl : k = n := by omega
        go_wp2_with fail
        go_ret
        exact ⟨ret_bool (by rw [mayA_ok HG.out HN.out]; simp; omega), HW.out⟩
end Go.Proofs.Ytbdcbjeeaebfeaa.P3
