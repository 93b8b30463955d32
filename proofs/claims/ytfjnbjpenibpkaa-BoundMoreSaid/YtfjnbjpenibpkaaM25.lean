/- What placketref11.Count and Alike answer. No condition but those stated. -/
import Derived.Deep.RegionHeld3
import Derived.Deep.Cut
import Derived.Test.YtfjnbjpenibpkaaM4
import Derived.Test.YtfjnbjpenibpkaaM21
import Derived.Test.YtfjnbjpenibpkaaM22
set_option linter.unusedVariables false
set_option linter.unusedSimpArgs false
set_option linter.unusedVariables false
set_option linter.unusedSimpArgs false
namespace Go.Proofs.Ytfjnbjpenibpkaa.P14
open Go.RowKit Kd P4 P5 P11 P12 P13

theorem wtL_kids {t : WV} {l : List WV} (h : t ∈ l) : wtL (erL t.kids) + 1 ≤ wtL (erL l) := by
  have h1 := wtL_mem (l := erL l) (t := er t) (by rw [erL_map]; exact List.mem_map_of_mem h)
  rw [er_parts, wtW] at h1
  omega
theorem cnt_parts (t : WV) : cntW (er t) = if t.kind = 2 then 1 else if t.kind = 1 then 1 + cntL (erL t.kids) else 0 := by rw [er_parts, cntW]
def CntC (ts : List WV) : Prop := ∀ (w : World) (A : Option Addr) (n c : Nat), kQ.Holds w w.heap.size A ts → ts.length = n → (∀ t ∈ ts, WOk kQ w w.heap.size t) → wtL (erL ts) ≤ 100000 →
  Calls Try.prog 8 #[.slice A n c] w fun e w' => e = .returned (.int .i64 (cntL (erL ts) : Nat)) ∧ Below w.heap.size w w'
set_option maxHeartbeats 4000000 in
theorem rcnt_of (ts : List WV) (IH : ∀ t ∈ ts, CntC t.kids) : CntC ts := by
  intro w A n c hh hn hok hw
  have KH := Lib.hid hh
  have KL := Lib.hid hn
  have KS := Lib.hid hok
  have HI : Hid (∀ t ∈ ts, CntC t.kids) := Lib.hid IH
  have EL : Hid ((erL ts).length = n) := Lib.hid (by rw [erL_map]; simpa using hn)
  have HC : Hid (∀ k, cntL ((erL ts).take k) ≤ 100000) := Lib.hid (fun k => by
    have h1 := cntL_wt ((erL ts).take k)
    have h2 : wtL (erL ts) = wtL ((erL ts).take k) + wtL ((erL ts).drop k) := by rw [← wtL_append, List.take_append_drop]
    omega)
  have HW := Lib.hid hw
  have hn1 : n ≤ 100000 := by have := wtL_len (erL ts); have := EL.out; omega
  clear hh hn hok hw IH
  go_enter Try.func8, Try.ntmps8
  go_wp2_with fail
  go_loopw [3, 4] (fun s3 s4 wr => ∃ (k : Nat), k ≤ n ∧ s4 = .int .i64 k ∧ s3 = .int .i64 (cntL ((erL ts).take k) : Nat) ∧ Hid (Below w.heap.size w wr)) (fun _ s4 _ => n - (intOf s4).toNat)
  case atStart => exact ⟨0, by omega, rfl, by simp [cntL], Lib.hid (Below.refl _ _)⟩
  case round =>
    obtain ⟨k, hk, rfl, rfl, HB⟩ := hrel
    by_cases hkn : k < n
    · have hkl : k < ts.length := by have := KL.out; omega
      have hke : k < (erL ts).length := by have := EL.out; omega
      have SN := Lib.hid (cntL_take hke)
      rw [erL_at hkl hke, cnt_parts] at SN
      have hd1 := HC.out k
      have hd2 := HC.out (k + 1)
      obtain ⟨b, o, rfl, hb, g0', g1', g2', g3', g4', g5'⟩ := cell_of_q KH.out hkl
      have G : Hid (∀ wz, Below w.heap.size w wz → wz.cell? ⟨b, o + k * 6, none⟩ = some (.int .i64 ts[k].kind) ∧ wz.cell? ⟨b, o + k * 6 + 5, none⟩ = some (.slice ts[k].sk.A ts[k].sk.n ts[k].sk.c)) := Lib.hid (fun wz h => ⟨(h.cell hb).trans g0', (h.cell hb).trans g5'⟩)
      obtain ⟨g0, g5⟩ := G.out wr HB.out
      have CK : Hid (Calls Try.prog 8 #[.slice ts[k].sk.A ts[k].sk.n ts[k].sk.c] wr fun e w' => e = .returned (.int .i64 (cntL (erL ts[k].kids) : Nat)) ∧ Below wr.heap.size wr w') := Lib.hid (by
        have ht := (KS.out _ (List.getElem_mem hkl)).on HB.out
        exact HI.out _ (List.getElem_mem hkl) wr _ _ _ ht.kh ht.kl ht.ks (by have := wtL_kids (List.getElem_mem hkl); have := HW.out; omega))
      clear g0' g1' g2' g3' g4' g5'
      generalize ts[k] = d at g0 g5 G CK SN
      generalize cntL (erL d.kids) = dk at CK SN
      generalize cntL ((erL ts).take k) = m at SN hd1 ⊢
      rw [SN.out] at hd2
      obtain ⟨kind, hkd⟩ : ∃ x, d.kind = x := ⟨_, rfl⟩
      rw [hkd] at g0 SN hd2 G
      by_cases h2 : kind = 2
      · subst h2
        rw [if_pos rfl] at SN hd2
        go_wp2_with fail
        go_roundw
        case rel => exact ⟨k + 1, by omega, by go_num, by rw [SN.out]; go_num, HB⟩
        case measure => simp [intOf]; omega
      · have q2 := int_ne h2
        rw [if_neg h2] at SN hd2
        by_cases h1 : kind = 1
        · subst h1
          rw [if_pos rfl] at SN hd2
          go_wp2_with fail
          refine CK.out.mono ?_
          rintro e w2 ⟨rfl, b2⟩
          have B2 := Lib.hid (HB.out.trans (b2.mono HB.out.size))
          clear b2
          go_wp2_with fail
          go_roundw
          case rel => exact ⟨k + 1, by omega, by go_num, by rw [SN.out]; congr 1; omega, B2⟩
          case measure => simp [intOf]; omega
        · have q1 := int_ne h1
          rw [if_neg h1] at SN hd2
          go_wp2_with fail
          go_roundw
          case rel => exact ⟨k + 1, by omega, by go_num, by rw [SN.out]; rfl, HB⟩
          case measure => simp [intOf]; omega
    · obtain rfl : k = n := by omega
      go_wp2_with fail
      go_ret
      exact ⟨by rw [List.take_of_length_le (by have := EL.out; omega)]; rfl, HB.out⟩
theorem rcnt_kids : ∀ t : WV, CntC t.kids := by
  intro t
  induction t using WV.ind with
  | h kind tag key txt sa attrs sk kids ih => exact rcnt_of kids ih
theorem rcnt_any (ts : List WV) : CntC ts := rcnt_of ts (fun t _ => rcnt_kids t)
end Go.Proofs.Ytfjnbjpenibpkaa.P14
