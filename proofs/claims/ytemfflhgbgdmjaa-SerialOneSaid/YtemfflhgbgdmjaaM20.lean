/- What placketref08.Put and placketref08.All answer: each tree's HTML. No condition but those stated. -/
import Derived.Test.YtemfflhgbgdmjaaM18
import Derived.Test.YtemfflhgbgdmjaaM19
set_option linter.unusedVariables false
set_option linter.unusedSimpArgs false
namespace Go.Proofs.Ytemfflhgbgdmjaa.P9
open Go.RowKit Kd P4 P5 P8

def RPutC (t : TV) : Prop := ∀ w : World, TOk w w.heap.size t → fewP (er t) = true → countP (er t) ≤ 1000 →
  Calls Try.prog 9 #[.agg #[.string t.tag, .string t.txt, .string t.key, .slice t.sa.A t.sa.n t.sa.c, .slice t.sk.A t.sk.n t.sk.c]] w fun e w' => e = .returned (.string (htmlB (er t))) ∧ Below w.heap.size w w'
def RAllC (ts : List TV) : Prop := ∀ (w : World) (A : Option Addr) (n c : Nat), kT.Holds w w.heap.size A ts → ts.length = n → (∀ t ∈ ts, TOk w w.heap.size t) → fewL (erL ts) = true → countL (erL ts) ≤ 1000 →
  Calls Try.prog 11 #[.slice A n c] w fun e w' => e = .returned (.string (htmlsB (erL ts))) ∧ Below w.heap.size w w'
theorem html_size {t : PT} (h : fewP t = true) (hc : countP t ≤ 1000) : (htmlB t).size ≤ 30000000 := by
  have := putH_len t h
  show (putH t).toArray.size ≤ _
  simp only [List.size_toArray]
  omega

set_option maxHeartbeats 2000000 in
theorem rall_of (ts : List TV) (IH : ∀ t ∈ ts, RPutC t) : RAllC ts := by
  intro w A n c hh hn hok hf hc
  have KH : Hid (kT.Holds w w.heap.size A ts) := Lib.hid hh
  have KL : Hid (ts.length = n) := Lib.hid hn
  have KS : Hid (∀ t ∈ ts, TOk w w.heap.size t) := Lib.hid hok
  have HI : Hid (∀ t ∈ ts, RPutC t) := Lib.hid IH
  have EL : Hid ((erL ts).length = n) := Lib.hid (by rw [erL_map]; simpa using hn)
  have F5 : Hid (∀ k (hk : k < ts.length), fewP (er ts[k]) = true ∧ countP (er ts[k]) ≤ 1000) := Lib.hid (fun k hk => by
    have hk' : k < (erL ts).length := by rw [erL_map]; simpa using hk
    have h1 := fewL_at hk' hf
    have h2 := countL_at hk'
    have e : (erL ts)[k] = er ts[k] := by simp [erL_map]
    rw [e] at h1 h2
    exact ⟨h1, by omega⟩)
  have HLEN : Hid ((allH (erL ts)).length ≤ 30000000) := Lib.hid (by have := allH_len hf; omega)
  have hn1 : n ≤ 1000 := by have := len_le_count (erL ts); have := EL.out; omega
  clear hh hn hok hf hc IH
  go_enter Try.func11, Try.ntmps11
  go_wp2_with fail
  go_loopw [3, 4] (fun s i wr => ∃ (k : Nat), k ≤ n ∧ i = .int .i64 k ∧ (∃ x : ByteArray, s = .string x ∧ x.size ≤ 30000000 ∧ Hid (x = ⟨(allH ((erL ts).take k)).toArray⟩)) ∧ Hid (Below w.heap.size w wr)) (fun _ i _ => n - (intOf i).toNat)
  case atStart => exact ⟨0, by omega, rfl, ⟨_, rfl, by decide, Lib.hid (by simp [allH])⟩, Lib.hid (Below.refl _ _)⟩
  case round =>
    obtain ⟨k, hk, rfl, ⟨x, rfl, hx, HX⟩, HW⟩ := hrel
    by_cases hkn : k < n
    · have hkl : k < ts.length := by have := KL.out; omega
      have hke : k < (erL ts).length := by have := EL.out; omega
      obtain ⟨b', o, rfl, hb', g0, g1, g2, g3, g4⟩ := cell_of_trees (KH.out.on HW.out) hkl
      have SN : Hid (allH ((erL ts).take (k + 1)) = allH ((erL ts).take k) ++ putH (er ts[k])) := Lib.hid (by
        rw [allH_snoc hke]
        simp [erL_map])
      obtain ⟨f1, f2⟩ := F5.out k hkl
      have hsz := html_size f1 f2
      have LE : Hid (x.size + (htmlB (er ts[k])).size ≤ 30000000) := Lib.hid (by
        have h1 := congrArg List.length SN.out
        have h2 := allH_take_le (erL ts) (k + 1)
        have h3 := HLEN.out
        have h4 : x.size = (allH ((erL ts).take k)).length := by rw [HX.out]; show (allH ((erL ts).take k)).toArray.size = _; simp
        have h5 : (htmlB (er ts[k])).size = (putH (er ts[k])).length := by show (putH (er ts[k])).toArray.size = _; simp
        rw [List.length_append] at h1
        omega)
      have CK : Hid (Calls Try.prog 9 #[.agg #[.string ts[k].tag, .string ts[k].txt, .string ts[k].key, .slice ts[k].sa.A ts[k].sa.n ts[k].sa.c, .slice ts[k].sk.A ts[k].sk.n ts[k].sk.c]] wr fun e w' => e = .returned (.string (htmlB (er ts[k]))) ∧ Below wr.heap.size wr w') := Lib.hid (HI.out _ (List.getElem_mem hkl) wr ((KS.out _ (List.getElem_mem hkl)).on HW.out) f1 f2)
      clear f1 f2
      generalize ts[k] = d at g0 g1 g2 g3 g4 SN CK hsz LE
      go_wp2_with fail
      refine CK.out.mono ?_
      rintro e w2 ⟨rfl, b2⟩
      have B2 := Lib.hid (HW.out.trans (b2.mono HW.out.size))
      clear b2
      go_wp2_with fail
      go_roundw
      case rel => exact ⟨k + 1, by omega, by go_num, ⟨_, rfl, by rw [ByteArray.size_append]; exact LE.out, Lib.hid (by rw [SN.out, HX.out]; exact P2.str_append _ _)⟩, B2⟩
      case measure => simp [intOf]; omega
    · obtain rfl : k = n := by omega
      go_wp2_with fail
      go_ret
      exact ⟨P2.ret_str (by rw [HX.out, ← EL.out, List.take_length]; rfl), HW.out⟩
end Go.Proofs.Ytemfflhgbgdmjaa.P9
