/- What attr.Same (by slices.Equal) answers, for every list that isn't too long. -/
import Derived.Deep.DeepCutAuto
import Derived.Deep.CutBlock
import Derived.Deep.RegionHeld3
import Derived.Test.YtfjnbjpenibpkaaM4
import Derived.Test.YtfjnbjpenibpkaaM8
import Derived.Test.YtfjnbjpenibpkaaM27
import Derived.Test.YtfjnbjpenibpkaaM30
set_option linter.unusedVariables false
set_option linter.unusedSimpArgs false
set_option linter.unusedVariables false
set_option linter.unusedSimpArgs false
namespace Go.Proofs.Ytfjnbjpenibpkaa.P3
open Go.RowKit

end Go.Proofs.Ytfjnbjpenibpkaa.P3

/- What the program's wish.Same answers. No condition but those stated. -/
set_option linter.unusedVariables false
set_option linter.unusedSimpArgs false
namespace Go.Proofs.Ytfjnbjpenibpkaa.P14
open Go.RowKit Kd P4 P5 P11 P12 P13

end Go.Proofs.Ytfjnbjpenibpkaa.P14

/- Slices of strings, and what slices.Contains answers of them. No condition but those stated. -/
set_option linter.unusedVariables false
set_option linter.unusedSimpArgs false
namespace Go.Proofs.Ytfjnbjpenibpkaa.P13
open Go.RowKit Kd P4

theorem infoStr : (Try.prog.info? 9).map (fun i => (i.zero, i.size, i.bytes)) = some (some (.string ⟨#[]⟩), 1, 16) := by kernel_rfl
def kStr : Kind Try.prog ByteArray where
  t := 53
  e := 9
  size := 1
  bytes := 16
  z := .string ⟨#[]⟩
  cs := fun s => [.string s]
  ht := Try.underlying53
  info := info_ex infoStr
  hzs := rfl
  hpos := by decide
  hbb := by decide
  len := fun _ => rfl
  one := fun a u hu => by simp at hu; subst hu; rfl
theorem cell_str {w : World} {B : Nat} {A : Option Addr} {l : List ByteArray} (h : kStr.Holds w B A l) {k : Nat} (hk : k < l.length) : ∃ b o, A = some ⟨b, o, none⟩ ∧ b < B ∧ w.cell? ⟨b, o + k, none⟩ = some (.string l[k]) := by
  obtain ⟨b, o, hA, hb, hc⟩ := h.at hk
  refine ⟨b, o, hA, hb, ?_⟩
  have := hc 0 _ rfl
  rw [show k * kStr.size + 0 = k from Nat.mul_one k] at this
  exact this
theorem toList_inj {s t : ByteArray} (h : s.toList = t.toList) : s = t := by
  rw [ByteArray.toList_eq, ByteArray.toList_eq] at h
  cases s; cases t
  simp only [Array.toList_inj] at h
  subst h
  rfl
theorem str_ne {s t : ByteArray} (h : s ≠ t) : (s.toList == t.toList) = false := beq_eq_false_iff_ne.2 (fun e => h (toList_inj e))
theorem str_eq {s t : ByteArray} (h : s = t) : (s.toList == t.toList) = true := by subst h; exact beq_self_eq_true _
set_option maxHeartbeats 400000 in
theorem sindex_yes (l : List ByteArray) (t : ByteArray) (A : Option Addr) (n c : Nat) (w : World) (hn : l.length = n) (hn2 : n ≤ 1000000) (ht : t ∈ l) (H : kStr.Holds w w.heap.size A l) :
    Calls Try.prog 35 #[.slice A n c, .string t] w fun e w' => (∃ k : Nat, e = .returned (.int .i64 k)) ∧ w = w' := by
  have HH := Lib.hid H
  have HN := Lib.hid hn
  have HT := Lib.hid ht
  clear H hn ht
  go_enter Try.func35, Try.ntmps35
  go_wp2_with fail
  go_loop [8] (fun i => ∃ k : Nat, k ≤ n ∧ i = .int .i64 k ∧ Hid (∀ j (h : j < l.length), j < k → l[j] ≠ t)) (fun i => n - (intOf i).toNat)
  case atStart => exact ⟨0, by omega, rfl, Lib.hid (fun j _ h => by omega)⟩
  case round =>
    obtain ⟨k, hk, rfl, HJ⟩ := hrel
    by_cases hlt : k < n
    · have hkl : k < l.length := by have := HN.out; omega
      obtain ⟨b, o, rfl, hb, hc⟩ := cell_str HH.out hkl
      by_cases he : t = l[k]
      · have hq : (t.toList == l[k].toList) = true := str_eq he
        clear he
        go_wp2
        go_ret
        exact ⟨⟨k, rfl⟩, rfl⟩
      · have hq : (t.toList == l[k].toList) = false := str_ne he
        have HE := Lib.hid he
        clear he
        go_wp2
        go_round
        case rel =>
          refine ⟨k + 1, by omega, by go_num, Lib.hid (fun j hj hjk => ?_)⟩
          by_cases e : j = k
          · subst e; exact fun e2 => HE.out e2.symm
          · exact HJ.out j hj (by omega)
        case measure => simp [intOf]; omega
    · exfalso
      obtain ⟨j, hj, e⟩ := List.mem_iff_getElem.1 HT.out
      exact HJ.out j hj (by have := HN.out; omega) e
set_option maxHeartbeats 400000 in
theorem sindex_no (l : List ByteArray) (t : ByteArray) (A : Option Addr) (n c : Nat) (w : World) (hn : l.length = n) (hn2 : n ≤ 1000000) (ht : t ∉ l) (H : kStr.Holds w w.heap.size A l) :
    Calls Try.prog 35 #[.slice A n c, .string t] w fun e w' => e = .returned (.int .i64 (-1)) ∧ w = w' := by
  have HH := Lib.hid H
  have HN := Lib.hid hn
  have HT := Lib.hid ht
  clear H hn ht
  go_enter Try.func35, Try.ntmps35
  go_wp2_with fail
  go_loop [8] (fun i => ∃ k : Nat, k ≤ n ∧ i = .int .i64 k) (fun i => n - (intOf i).toNat)
  case atStart => exact ⟨0, by omega, rfl⟩
  case round =>
    obtain ⟨k, hk, rfl⟩ := hrel
    by_cases hlt : k < n
    · have hkl : k < l.length := by have := HN.out; omega
      obtain ⟨b, o, rfl, hb, hc⟩ := cell_str HH.out hkl
      have hq : (t.toList == l[k].toList) = false := str_ne (fun e => HT.out (e ▸ List.getElem_mem hkl))
      go_wp2
      go_round
      case rel => exact ⟨k + 1, by omega, by go_num⟩
      case measure => simp [intOf]; omega
    · go_wp2
      go_ret
      exact ⟨rfl, rfl⟩
set_option maxHeartbeats 400000 in
theorem scontains_any (l : List ByteArray) (t : ByteArray) (A : Option Addr) (n c : Nat) (w : World) {r : Bool} (hr : r = true ↔ t ∈ l) (hn : l.length = n) (hn2 : n ≤ 1000000) (H : kStr.Holds w w.heap.size A l) :
    Calls Try.prog 31 #[.slice A n c, .string t] w fun e w' => e = .returned (.bool r) ∧ w = w' := by
  have HH := Lib.hid H
  have HN := Lib.hid hn
  clear H hn
  by_cases ht : t ∈ l
  · have HT := Lib.hid ht
    obtain rfl : r = true := hr.2 ht
    clear ht hr
    go_enter Try.func31, Try.ntmps31
    go_wp2_with fail
    refine (sindex_yes l t A n c w HN.out hn2 HT.out HH.out).mono ?_
    rintro e w' ⟨⟨k, rfl⟩, rfl⟩
    have hk : (0 : Int) ≤ (k : Int) := by omega
    go_wp2_with fail
    go_ret
    exact ⟨rfl, rfl⟩
  · have HT := Lib.hid ht
    obtain rfl : r = false := by cases r with | true => exact absurd (hr.1 rfl) ht | false => rfl
    clear ht hr
    go_enter Try.func31, Try.ntmps31
    go_wp2_with fail
    refine (sindex_no l t A n c w HN.out hn2 HT.out HH.out).mono ?_
    rintro e w' ⟨rfl, rfl⟩
    go_wp2_with fail
    go_ret
    exact ⟨rfl, rfl⟩
end Go.Proofs.Ytfjnbjpenibpkaa.P13
