/- Layer 12's example, and the walks of CodeGets and CodePuts, over the contracts of the program's Put and Get. No condition but those stated. -/
import Derived.Test.YtmddlcnogckmdaaSame12
import Derived.Test.YtmddlcnogckmdaaErrV
import Derived.Test.YtmddlcnogckmdaaErr
import Derived.Deep.RegionHeld3
set_option linter.unusedVariables false
set_option linter.unusedSimpArgs false
namespace Go.Proofs.Ytmddlcnogckmdaa.P12
open Go.RowKit Kd P4 P5 P11

/-- a program's bytes, and an error's number -/
def putR (l : List In) : List UInt8 × Nat := if l.all mayI then (if 120 < l.length then ([], 13) else (putI l, 0)) else ([], 1)
def PutV (w : World) (p : List UInt8 × Nat) (e : Ending) (w' : World) : Prop := ∃ (A : Option Addr) (n c : Nat), e = .returned (.tuple #[.slice A n c, errV (p.2 : Nat)]) ∧ p.1.length = n ∧ n ≤ c ∧ c ≤ maxLen ∧ (A = none → c = 0) ∧ kB.Holds w' w'.heap.size A p.1 ∧ Below w.heap.size w w'
def GetV (w : World) (p : List In × Nat) (e : Ending) (w' : World) : Prop := ∃ (A : Option Addr) (n c : Nat), e = .returned (.tuple #[.slice A n c, errV (p.2 : Nat)]) ∧ p.1.length = n ∧ n ≤ c ∧ c ≤ maxLen ∧ (A = none → c = 0) ∧ kX.Holds w' w'.heap.size A p.1 ∧ Below w.heap.size w w'
def PutC : Prop := ∀ (l : List In) (A : Option Addr) (n c : Nat) (w : World), kX.Holds w w.heap.size A l → l.length = n → n ≤ c → c ≤ maxLen → n ≤ 1000 → (∀ i ∈ l, i.a.size ≤ 300 ∧ i.b.size ≤ 300) → Calls Try.prog 8 #[.slice A n c] w (PutV w (putR l))
def GetC : Prop := ∀ (b : List UInt8) (A : Option Addr) (n c : Nat) (w : World), kB.Holds w w.heap.size A b → b.length = n → n ≤ c → c ≤ maxLen → n ≤ 100000 → Calls Try.prog 11 #[.slice A n c] w (GetV w (getP b))
set_option maxRecDepth 100000 in
theorem conv_all {w : World} {A : Option Addr} {n c : Nat} {l : List UInt8} {C : Nat} (h : kB.Holds w C A l) (hn : l.length = n) (hz : A = none → c = 0) (hnc : n ≤ c) : (convert 25 9 (.slice A n c)).run Try.prog w = .ok (.string (bs l)) w := by
  cases A with
  | none =>
    have hl : l = [] := List.eq_nil_of_length_eq_zero (by have := hz rfl; omega)
    subst hl
    exact run_convert_bytes_nil w 25 5 Try.underlying25 Try.underlying5 n c _ Try.underlying9
  | some ad =>
    obtain ⟨b, o, sp⟩ := ad
    cases hl : l with
    | nil =>
      subst hl
      subst hn
      exact (run_convert_bytes_back (P := Try.prog) w _ _ 5 ⟨b, o, sp⟩ c [] Try.underlying25 Try.underlying5 Try.underlying9 (fun j hj => by simp at hj)).trans rfl
    | cons x r =>
      obtain ⟨b', o', hA, _, _⟩ := byte_cell h (k := 0) (by rw [hl]; simp)
      injection hA with hA
      injection hA with e1 e2 e3
      subst e3
      have := conv_at (cap := c) h 0 hn (by rw [List.drop_zero, ← hn, List.take_length])
      rw [← hl]
      simpa using this
theorem c0 : (⟨#[]⟩ : ByteArray).toList = [] := by rw [ByteArray.toList_eq]
def hiX : In := ⟨4, ⟨#[104, 105]⟩, ⟨#[]⟩⟩
theorem hi_may : mayI hiX = true := by
  simp only [hiX, mayI, c0]
  decide
theorem hi_put : putR [hiX] = ([4, 2, 104, 105], 0) := by
  rw [putR, if_pos (by rw [List.all_cons, hi_may]; rfl), if_neg (by decide)]
  rfl
theorem nine_get : getP [9] = ([], 7) := by
  have h : oneP [9] = none := by
    cases ho : oneP [9] with
    | none => rfl
    | some p =>
      obtain ⟨i, r⟩ := p
      obtain ⟨h1, h2⟩ := one_back ho
      obtain ⟨_, _, h3, h4, _⟩ := may_small h2
      have hb := byteOf_nat h3 h4
      rw [insH, List.cons_append] at h1
      injection h1 with h1 _
      rw [← h1] at hb
      have : ((9 : UInt8).toNat : Int) = 9 := rfl
      omega
  rw [getP, getI, if_neg (by simp), h]
set_option maxHeartbeats 2000000 in
theorem up12_any (PP : PutC) (PG : GetC) (w : World) : Calls Try.prog 6 #[] w fun e w' => e = .returned (.bool true) ∧ Below w.heap.size w w' := by
  have q1 := err_eql
  have q2 := err_eql_nil
  have q3 := err_neq_nil
  have q4 := nil_eql_nil
  have q5 := nil_neq_nil
  have C1 : Hid (Calls Try.prog 8 #[.slice (some ⟨w.heap.size, 0, none⟩) 1 1] (w.alloc (.cells #[.int .i64 4, .string ⟨#[104, 105]⟩, .string ⟨#[]⟩] 32)) (PutV (w.alloc (.cells #[.int .i64 4, .string ⟨#[104, 105]⟩, .string ⟨#[]⟩] 32)) ([4, 2, 104, 105], 0))) := Lib.hid (by
    have := PP [hiX] (some ⟨w.heap.size, 0, none⟩) 1 1 (w.alloc (.cells #[.int .i64 4, .string ⟨#[104, 105]⟩, .string ⟨#[]⟩] 32)) ((Kind.Holds.lit (heap_alloc_new w _) rfl).more (by simp)) rfl (by omega) (by simp [maxLen]) (by omega) (fun i hi => by rw [List.mem_singleton.1 hi]; decide)
    rw [hi_put] at this
    exact this)
  have B1 : Hid (Below w.heap.size w (w.alloc (.cells #[.int .i64 4, .string ⟨#[104, 105]⟩, .string ⟨#[]⟩] 32))) := Lib.hid ((Below.refl _ _).alloc (Nat.le_refl _) _)
  go_enter Try.func6, Try.ntmps6
  go_wp2_with fail
  refine C1.out.mono ?_
  rintro e w1 ⟨A, n, c, rfl, hn, hnc, hcm, hz, hh, b1⟩
  have KH := Lib.hid hh
  have KN := Lib.hid hn
  have KZ := Lib.hid hz
  have B2 := Lib.hid (B1.out.trans (b1.mono B1.out.size))
  have e0 : errV (((([4, 2, 104, 105], 0) : List UInt8 × Nat).2 : Nat) : Int) = .nilIface := rfl
  rw [e0]
  clear e0 hn hz hh b1 C1
  have C2 : Hid (Calls Try.prog 11 #[.slice (some ⟨w1.heap.size, 0, none⟩) 1 1] (w1.alloc (.cells #[.int .u8 9] 5)) (GetV (w1.alloc (.cells #[.int .u8 9] 5)) ([], 7))) := Lib.hid (by
    have := PG [9] (some ⟨w1.heap.size, 0, none⟩) 1 1 (w1.alloc (.cells #[.int .u8 9] 5)) ((Kind.Holds.lit (heap_alloc_new w1 _) rfl).more (by simp)) rfl (by omega) (by simp [maxLen]) (by omega)
    rw [nine_get] at this
    exact this)
  have BA : Hid (Below w1.heap.size w1 (w1.alloc (.cells #[.int .u8 9] 5))) := Lib.hid ((Below.refl _ _).alloc (Nat.le_refl _) _)
  go_wp2_with fail
  refine C2.out.mono ?_
  rintro e w2 ⟨A2, n2, c2, rfl, _, _, _, _, _, b2⟩
  have e7 : errV (((([], 7) : List In × Nat).2 : Nat) : Int) = .iface 33 (.int .i64 7) := rfl
  rw [e7]
  have BX : Hid (Below w1.heap.size w1 w2) := Lib.hid (BA.out.trans (b2.mono BA.out.size))
  have B3 := Lib.hid (B2.out.trans (BX.out.mono B2.out.size))
  have kc := conv_all (w := w2) (KH.out.on BX.out) KN.out KZ.out hnc
  have qb : ((bs [4, 2, 104, 105]).toList == [4, 2, 104, 105]) = true := by rw [ByteArray.toList_eq, bs_data]; rfl
  clear e7 b2 C2 BA B2
  go_wp2_with fail
  go_ret
  exact ⟨by first | rfl | simp [bs], B3.out⟩
/-! ### CodeGets -/
theorem code_errV (m : Nat) (hm : m ≤ 13) (w : World) : Calls Try.prog 13 #[errV (m : Nat)] w fun e w' => e = .returned (.int .i64 m) ∧ w = w' := by
  by_cases h : m = 0
  · subst h
    have q4 := nil_eql_nil
    show Calls Try.prog 13 #[.nilIface] w _
    go_enter Try.func13, Try.ntmps13
    go_wp2
    go_ret
    exact ⟨rfl, rfl⟩
  · have e : errV ((m : Nat) : Int) = .iface 33 (.int .i64 m) := by unfold errV; rw [if_neg (by omega)]
    rw [e]
    exact code_any m (by omega) hm w
theorem getP_code (b : List UInt8) : (getP b).2 ≤ 13 := by
  rcases getI_code (b.length + 1) b [] with h | h | h
  · unfold getP; rw [h]; omega
  · unfold getP; rw [h]; decide
  · unfold getP; rw [h]; decide
theorem getI_len : ∀ (f : Nat) (b : List UInt8) (acc : List In), acc.length ≤ 120 → (getI f b acc).1.length ≤ 120
  | 0, _, acc, h => h
  | f + 1, b, acc, h => by
    rw [getI]
    split
    · exact h
    · cases oneP b with
      | none => simp
      | some p =>
        simp only
        split
        · simp
        · exact getI_len f _ _ (by simp; omega)
theorem getP_len (b : List UInt8) : (getP b).1.length ≤ 120 := getI_len _ _ _ (by simp)
theorem ownX_is {w : World} {D : Nat} {A : Option Addr} {n c : Nat} {l : List In} (h : kX.Own w D (.slice A n c) l) : l.length = n ∧ n ≤ c ∧ c ≤ maxLen ∧ (A = none → c = 0) ∧ kX.Holds w w.heap.size A l := by
  obtain ⟨A', n', c', hv, e1, e2, e3, e4, e5⟩ := h.slice
  injection hv with h1 h2 h3
  subst h1; subst h2; subst h3
  exact ⟨e1, e2, e3, e4, e5⟩
set_option maxHeartbeats 2000000 in
theorem gets12_any (PP : PutC) (PG : GetC) (b : List UInt8) (A : Option Addr) (n c : Nat) (w : World) (hh : kB.Holds w w.heap.size A b) (hn : b.length = n) (hnc : n ≤ c) (hcm : c ≤ maxLen) :
    Calls Try.prog 4 #[.slice A n c] w fun e w' => e = .returned (.bool true) ∧ Below w.heap.size w w' := by
  have HU := Lib.hid (up12_any PP PG)
  have KH := Lib.hid hh
  have KN := Lib.hid hn
  have KC := Lib.hid hcm
  have HP := Lib.hid PG
  have hcm' : c ≤ 9223372036854775807 := by unfold maxLen at hcm; omega
  clear hh hn hcm
  go_enter Try.func4, Try.ntmps4
  go_wp2_with fail
  refine (HU.out w).mono ?_
  rintro e w1 ⟨rfl, b1⟩
  have B1 := Lib.hid b1
  clear b1 HU
  by_cases h3 : 3000 < n
  · go_wp2_with fail
    go_ret
    exact ⟨rfl, B1.out⟩
  · have CG := Lib.hid (HP.out b A n c w1 (KH.out.on B1.out) KN.out hnc KC.out (by omega))
    have CR : Hid (∀ w9, Below w.heap.size w w9 → Calls Try.prog 12 #[.slice A n c] w9 (Xv w9 (getP b))) := Lib.hid (fun w9 h => rget_any b A n c w9 (KH.out.on h) KN.out hnc KC.out (by omega))
    have h13 := getP_code b
    have h120 := getP_len b
    generalize getP b = p at CG CR h13 h120
    obtain ⟨pl, pc⟩ := p
    simp only at h13 h120
    go_wp2_with fail
    refine CG.out.mono ?_
    rintro e w2 ⟨A2, n2, c2, rfl, e1, e2, e3, e4, e5, b2⟩
    have B2 := Lib.hid (B1.out.trans (b2.mono B1.out.size))
    have E1 : Hid (pl.length = n2) := Lib.hid e1
    have E5 : Hid (kX.Holds w2 w2.heap.size A2 pl) := Lib.hid e5
    clear e1 e2 e3 e4 e5 b2 CG B1
    go_wp2_with fail
    refine (CR.out w2 B2.out).mono ?_
    rintro e w3 ⟨A3, n3, c3, l3, rfl, hl3, own, b3⟩
    have hl3 : l3 = pl := hl3
    subst hl3
    have OI := ownX_is own
    have B3 := Lib.hid (B2.out.trans (b3.mono B2.out.size))
    have F5 := Lib.hid (E5.out.on b3)
    have O1 := Lib.hid OI.1
    have O5 := Lib.hid OI.2.2.2.2
    clear OI own b3 CR
    simp only
    go_wp2_with fail
    refine (code_errV pc h13 w3).mono ?_
    rintro e w' ⟨rfl, rfl⟩
    have CS : Hid (Calls Try.prog 14 #[.slice A2 n2 c2, .slice A3 n3 c3] w3 fun e w' => e = .returned (.bool true) ∧ Below w3.heap.size w3 w') := Lib.hid (by
      have := rsame_any l3 l3 A2 A3 n2 n3 c2 c3 w3 E1.out O1.out (by have := E1.out; omega) (by have := O1.out; omega) F5.out O5.out
      rw [sameI_refl] at this
      exact this)
    go_wp2_with fail
    refine CS.out.mono ?_
    rintro e w4 ⟨rfl, b4⟩
    have B4 := Lib.hid (B3.out.trans (b4.mono B3.out.size))
    clear b4
    go_wp2_with fail
    go_ret
    exact ⟨rfl, B4.out⟩
end Go.Proofs.Ytmddlcnogckmdaa.P12
