/- What attr.Find and attr.has answer, for every list that isn't too long. -/
import Derived.Test.YtopnadaedcpaaaaAttrMem
namespace Go.Proofs.Ytopnadaedcpaaaa.P3
open Go.RowKit

theorem ret_find {o o' : Option At} (h : o = o') : Ending.returned (.tuple #[.agg #[.string (o.getD At.none).nm, .string (o.getD At.none).vl, .bool (o.getD At.none).st], .bool o.isSome]) = .returned (.tuple #[.agg #[.string (o'.getD At.none).nm, .string (o'.getD At.none).vl, .bool (o'.getD At.none).st], .bool o'.isSome]) := by rw [h]

set_option maxHeartbeats 400000 in
theorem find_any (l : List At) (A : Option Addr) (n c : Nat) (s : ByteArray) (w : World) (hn : l.length = n) (hl : n ≤ 1000000) (H : Holds w w.heap.size A l) :
    Calls Try.prog 96 #[.slice A n c, .string s] w fun e w' => e = .returned (.tuple #[.agg #[.string ((findA l s).getD At.none).nm, .string ((findA l s).getD At.none).vl, .bool ((findA l s).getD At.none).st], .bool (findA l s).isSome]) ∧ Below w.heap.size w w' := by
  have HH := Lib.hid H
  have HN0 := Lib.hid hn
  clear H hn
  go_enter Try.func96, Try.ntmps96
  go_wp2_with fail
  go_loopw [10] (fun i wr => ∃ k : Nat, k ≤ n ∧ i = .int .i64 k ∧ Hid (Below w.heap.size w wr) ∧ Hid (Blk wr w.heap.size At.none) ∧ Hid (findA (l.take k) s = none)) (fun i _ => n - (intOf i).toNat)
  case atStart => exact ⟨0, by omega, rfl, Lib.hid ((Below.refl _ _).alloc (Nat.le_refl _) _), Lib.hid (Blk.new w At.none), Lib.hid (by simp [findA])⟩
  case round =>
    obtain ⟨k, hk, rfl, HW, HB, HN⟩ := hrel
    have hz : w.heap.size < wr.heap.size := HB.out.lt
    have c0 := HB.out.c0
    have c1 := HB.out.c1
    have c2 := HB.out.c2
    have f0 := HB.out.frozen 0
    have f1 := HB.out.frozen 1
    have f2 := HB.out.frozen 2
    by_cases hlt : k < n
    · have hlt' : k < l.length := by have := HN0.out; omega
      obtain ⟨b, o, rfl, hb, h0, h1, h2⟩ := (HH.out.below HW.out (Nat.le_refl _)) k hlt'
      go_wp2_with fail
      · refine bodyPost_ret (v := .tuple #[.agg #[.string l[k].nm, .string l[k].vl, .bool l[k].st], .bool true]) (by simp [results, Try.results96, go_sem, c0, c1, c2, hz]) rfl ⟨ret_find (o := some l[k]) (findA_some HN.out hlt' ‹_›).symm, ?_⟩
        refine Below.alloc (Below.setCell (Below.setCell (Below.setCell HW.out ?_ _) ?_ _) ?_ _) ?_ _ <;> first | exact Nat.le_refl _ | (simp; omega)
      · go_roundw
        case rel => exact ⟨k + 1, by omega, by go_num, Lib.hid (HW.out.alloc (by omega) _), Lib.hid (HB.out.alloc _), Lib.hid (findA_next HN.out hlt' ‹_›)⟩
        case measure => simp [intOf]; omega
    · obtain rfl : k = n := by omega
      have HN2 := Lib.hid (findA_none HN0.out HN.out)
      go_wp2_with fail
      refine bodyPost_ret (v := .tuple #[.agg #[.string At.none.nm, .string At.none.vl, .bool At.none.st], .bool false]) (by simp [results, Try.results96, go_sem, c0, c1, c2, At.none]) rfl ⟨ret_find (o := none) HN2.out.symm, ?_⟩
      refine Below.setCell (Below.setCell (Below.setCell HW.out ?_ _) ?_ _) ?_ _ <;> exact Nat.le_refl _

theorem has_any (l : List At) (A : Option Addr) (n c : Nat) (s : ByteArray) (w : World) (hn : l.length = n) (hl : n ≤ 1000000) (H : Holds w w.heap.size A l) :
    Calls Try.prog 85 #[.slice A n c, .string s] w fun e w' => e = .returned (.bool (hasA l s)) ∧ Below w.heap.size w w' := by
  have HH := Lib.hid H
  have HN0 := Lib.hid hn
  clear H hn
  go_enter Try.func85, Try.ntmps85
  go_wp2_with fail
  refine (find_any l A n c s _ HN0.out hl HH.out).mono ?_
  rintro e w1 ⟨rfl, b1⟩
  have B1 := Lib.hid b1
  clear b1
  go_wp2_with fail
  go_ret
  exact ⟨rfl, B1.out.alloc B1.out.size _⟩
theorem has_at (l : List At) (A : Option Addr) (n c : Nat) (s : ByteArray) (w : World) {r : Bool} (hr : hasA l s = r) (hn : l.length = n) (hl : n ≤ 1000000) (H : Holds w w.heap.size A l) :
    Calls Try.prog 85 #[.slice A n c, .string s] w fun e w' => e = .returned (.bool r) ∧ Below w.heap.size w w' := by
  subst hr; exact has_any l A n c s w hn hl H
end Go.Proofs.Ytopnadaedcpaaaa.P3
