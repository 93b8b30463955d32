/- The law's Few of attributes: whether a list is short. -/
import Derived.Test.YtopnadaedcpaaaaAttrMem
namespace Go.Proofs.Ytopnadaedcpaaaa.P3
open Go.RowKit

theorem fewA_long {l : List At} (h : 20 < l.length) : fewA l = false := by unfold fewA; simp; omega
theorem fewA_bad {l : List At} {k : Nat} (hk : k < l.length) (h : shortA l[k] = false) : fewA l = false := by
  unfold fewA
  have : l.all shortA = false := by
    rw [List.all_eq_false]
    exact ⟨l[k], List.getElem_mem hk, by simp [h]⟩
  rw [this, Bool.and_false]
def ShortTo (l : List At) (k : Nat) : Prop := ∀ j (h : j < l.length), j < k → shortA l[j] = true
theorem ShortTo.zero (l : List At) : ShortTo l 0 := fun _ _ h => absurd h (by omega)
theorem ShortTo.next {l : List At} {k : Nat} (h : ShortTo l k) (hk : k < l.length) (hb : shortA l[k] = true) : ShortTo l (k + 1) := by
  intro j hj hlt
  by_cases e : j = k
  · subst e; exact hb
  · exact h j hj (by omega)
theorem ShortTo.all {l : List At} {k : Nat} (h : ShortTo l k) (hl : l.length ≤ k) (h20 : l.length ≤ 20) : fewA l = true := by
  unfold fewA
  have : l.all shortA = true := by
    rw [List.all_eq_true]
    intro x hx
    obtain ⟨j, hj, rfl⟩ := List.getElem_of_mem hx
    exact h j hj (by omega)
  rw [this, Bool.and_true]
  exact decide_eq_true h20
def fewN (l : List At) : Int := if fewA l then 1 else 0
theorem ret_few {l : List At} {b : Bool} {x : Int} (h : fewA l = b) (hx : x = if b then 1 else 0) : Ending.returned (.int .i64 x) = .returned (.int .i64 (fewN l)) := by
  unfold fewN; rw [h, hx]
theorem short_no {a : At} (h : 100 < a.nm.size ∨ 100 < a.vl.size) : shortA a = false := by
  unfold shortA; rcases h with h | h <;> simp <;> omega
theorem short_yes {a : At} (h : a.nm.size ≤ 100) (h2 : a.vl.size ≤ 100) : shortA a = true := by
  unfold shortA; simp [h, h2]

set_option maxHeartbeats 400000 in
theorem few_any (l : List At) (A : Option Addr) (n c : Nat) (w : World) (hn : l.length = n) (hl : n ≤ 9223372036854775807) (H : Holds w w.heap.size A l) :
    Calls Try.prog 28 #[.slice A n c] w fun e w' => e = .returned (.int .i64 (fewN l)) ∧ w = w' := by
  have HH := Lib.hid H
  have HN := Lib.hid hn
  clear H hn
  go_enter Try.func28, Try.ntmps28
  go_wp2_with fail
  go_loop [3] (fun i => ∃ k : Nat, k ≤ n ∧ k ≤ 20 ∧ i = .int .i64 k ∧ Hid (ShortTo l k)) (fun i => n - (intOf i).toNat)
  case atStart => exact ⟨0, by omega, by omega, rfl, Lib.hid (ShortTo.zero _)⟩
  case round =>
    obtain ⟨k, hk, hk20, rfl, HS⟩ := hrel
    by_cases hlt : k < n
    · by_cases h20 : k < 20
      · have hlt' : k < l.length := by have := HN.out; omega
        obtain ⟨b, o, rfl, hb, h0, h1, h2⟩ := HH.out k hlt'
        by_cases hs1 : 100 < l[k].nm.size
        · go_wp2_with fail
          go_ret
          exact ⟨ret_few (fewA_bad hlt' (short_no (.inl hs1))) rfl, rfl⟩
        · by_cases hs2 : 100 < l[k].vl.size
          · go_wp2_with fail
            go_ret
            exact ⟨ret_few (fewA_bad hlt' (short_no (.inr hs2))) rfl, rfl⟩
          · go_wp2_with fail
            go_round
            case rel => exact ⟨k + 1, by omega, by omega, by go_num, Lib.hid (HS.out.next hlt' (short_yes (by omega) (by omega)))⟩
            case measure => simp [intOf]; omega
      · obtain rfl : k = 20 := by omega
        by_cases hn20 : 20 < n
        · go_wp2_with fail
          go_ret
          exact ⟨ret_few (fewA_long (by have := HN.out; omega)) rfl, rfl⟩
        · exact absurd hlt hn20
    · obtain rfl : k = n := by omega
      go_wp2_with fail
      go_ret
      exact ⟨ret_few (HS.out.all (by have := HN.out; omega) (by have := HN.out; omega)) rfl, rfl⟩
end Go.Proofs.Ytopnadaedcpaaaa.P3
