/- What the laws' All and plain answer. No condition but those stated. -/
import Derived.Deep.DeepCutAuto
import Derived.Deep.CutBlock
import Derived.Test.YthdgaoifbejpjaaM18
import Derived.Test.YthdgaoifbejpjaaM20
import Derived.Test.YthdgaoifbejpjaaM21
import Derived.Test.YthdgaoifbejpjaaM22
import Derived.Test.YthdgaoifbejpjaaM23
import Derived.Test.YthdgaoifbejpjaaM24
set_option linter.unusedVariables false
set_option linter.unusedSimpArgs false
set_option linter.unusedVariables false
set_option linter.unusedSimpArgs false
namespace Go.Proofs.Ythdgaoifbejpjaa.P9
open Go.RowKit Kd P4 P5 P8

/-! ### All -/
def ManiedL (w : World) (most : Nat) (ts : List TV) (e : Ending) (w' : World) : Prop := ∃ m : Nat, e = .returned (.int .i64 m) ∧ m ≤ most + 1 ∧ (m ≤ most → m = countL (erL ts) ∧ fewL (erL ts) = true) ∧ Below w.heap.size w w'
set_option maxHeartbeats 2000000 in
theorem manyAll_any (ts : List TV) (most : Nat) (w : World) (A : Option Addr) (n c : Nat) (hmo : most ≤ 1000) (hh : kT.Holds w w.heap.size A ts) (hn : ts.length = n) (hnc : n ≤ c) (hc : c ≤ maxLen) (hok : ∀ t ∈ ts, TOk w w.heap.size t) (hfit : ∀ t ∈ ts, TFit t) :
    Calls Try.prog 15 #[.slice A n c, .int .i64 most] w (ManiedL w most ts) := by
  have KH := Lib.hid hh
  have KL := Lib.hid hn
  have KS := Lib.hid hok
  have HKS := Lib.hid hfit
  have EL : Hid ((erL ts).length = n) := Lib.hid (by rw [erL_map]; simpa using hn)
  unfold maxLen at hc
  clear hh hn hok hfit
  go_enter Try.func15, Try.ntmps15
  go_wp2_with fail
  go_loopw [5, 6] (fun s5 s6 wr => ∃ (k nn : Nat), k ≤ n ∧ nn ≤ most + 1 ∧ s6 = .int .i64 k ∧ s5 = .int .i64 nn ∧ Hid (nn ≤ most → nn = countL ((erL ts).take k) ∧ fewL ((erL ts).take k) = true) ∧ Hid (Below w.heap.size w wr)) (fun _ s6 _ => n - (intOf s6).toNat)
  case atStart => exact ⟨0, 0, by omega, by omega, rfl, rfl, Lib.hid (fun _ => by simp [countL, fewL]), Lib.hid (Below.refl _ _)⟩
  case round =>
    obtain ⟨k, nn, hk, hn2, rfl, rfl, HC, HB⟩ := hrel
    by_cases hkn : k < n
    · by_cases hnm : nn ≤ most
      · have hkl : k < ts.length := by have := KL.out; omega
        have hke : k < (erL ts).length := by rw [erL_map]; simpa using hkl
        have hee : (erL ts)[k] = er ts[k] := by simp [erL_map]
        have HCT := Lib.hid (countL_take hke)
        have HFT := Lib.hid (fun h1 => fewL_take hke h1)
        rw [hee] at HCT HFT
        obtain ⟨b, o, rfl, hb, g0, g1, g2, g3, g4⟩ := cell_of_trees (KH.out.on HB.out) hkl
        have hsub : ((most - nn : Nat) : Int) = (most : Int) - (nn : Int) := by omega
        have CK : Hid (Calls Try.prog 31 #[.agg #[.string ts[k].tag, .string ts[k].txt, .string ts[k].key, .slice ts[k].sa.A ts[k].sa.n ts[k].sa.c, .slice ts[k].sk.A ts[k].sk.n ts[k].sk.c], .int .i64 ((most : Int) - (nn : Int))] wr (Manied wr (most - nn) ts[k])) := Lib.hid (by
          rw [← hsub]
          exact many_any ts[k] (most - nn) wr (by omega) ((KS.out _ (List.getElem_mem hkl)).on HB.out) (HKS.out _ (List.getElem_mem hkl)))
        clear hee hsub
        generalize ts[k] = d at g0 g1 g2 g3 g4 CK HCT HFT
        go_wp2_with fail
        refine CK.out.mono ?_
        rintro e w2 ⟨m', rfl, hm1, hm2, hm3, b2⟩
        have B2 := Lib.hid (HB.out.trans (b2.mono HB.out.size))
        have HM3 := Lib.hid hm3
        clear b2 hm3
        go_wp2_with fail
        go_roundw
        case rel =>
          refine ⟨k + 1, nn + m', by omega, by omega, by go_num, by go_num, Lib.hid (fun hle => ?_), B2⟩
          obtain ⟨c1, c2⟩ := HM3.out (by omega)
          obtain ⟨d1, d2⟩ := HC.out (by omega)
          exact ⟨by rw [HCT.out]; omega, HFT.out d2 c2⟩
        case measure => simp [intOf]; omega
      · obtain rfl : nn = most + 1 := by omega
        go_wp2_with fail
        go_ret
        exact ⟨most + 1, rfl, by omega, fun h => by omega, HB.out⟩
    · obtain rfl : k = n := by omega
      by_cases hnm : nn ≤ most
      · go_wp2_with fail
        go_ret
        refine ⟨nn, rfl, hn2, fun _ => ?_, HB.out⟩
        have h1 := HC.out hnm
        rw [List.take_of_length_le (by have := EL.out; omega)] at h1
        exact h1
      · go_wp2_with fail
        go_ret
        exact ⟨nn, rfl, hn2, fun h => absurd h hnm, HB.out⟩

/-! ### plain -/
/-- is what stands ahead of place k a text? -/
def pv : List PT → Nat → Bool
  | _, 0 => false
  | l, k + 1 => match l[k]? with
    | some a => a.tag.toList.isEmpty
    | none => false
theorem pv_at {l : List PT} {k : Nat} (h : k < l.length) : pv l (k + 1) = l[k].tag.toList.isEmpty := by
  show (match l[k]? with | some a => a.tag.toList.isEmpty | none => false) = _
  rw [List.getElem?_eq_getElem h]
theorem plL_drop {l : List PT} {k : Nat} (h : k < l.length) : plL (l.drop k) (pv l k) = (plT l[k] && (!l[k].tag.toList.isEmpty || (!l[k].txt.toList.isEmpty && !pv l k)) && plL (l.drop (k + 1)) (pv l (k + 1))) := by
  rw [List.drop_eq_getElem_cons h, plL, pv_at h]
def NoSt (l : List P3.At) (k : Nat) : Prop := ∀ j (h : j < l.length), j < k → l[j].st = false
theorem noSt_all {l : List P3.At} (h : NoSt l l.length) : l.all (fun a => !a.st) = true := by
  rw [List.all_eq_true]
  intro a ha
  obtain ⟨j, hj, rfl⟩ := List.mem_iff_getElem.1 ha
  rw [h j hj hj]
  rfl
theorem noSt_bad {l : List P3.At} {k : Nat} (h : k < l.length) (hs : l[k].st = true) : l.all (fun a => !a.st) = false := by
  rw [List.all_eq_false]
  exact ⟨l[k], List.getElem_mem h, by simp [hs]⟩

end Go.Proofs.Ythdgaoifbejpjaa.P9

/- Layer 17's example, the law's wants, and the walk of DenoteTells, over the contracts of the program's Of (wish) and Of (denote). No condition but those stated. -/
namespace Go.Proofs.Ythdgaoifbejpjaa.P17
open Go.RowKit Kd P4 P5 P11 P12 P13 P14 P16
set_option linter.unusedSimpArgs false
set_option linter.unusedVariables false

/-! ### Rows of trees that are the same -/
def rootV (A : Option Addr) (n c : Nat) (ts : List P8.TV) : P8.TV := .mk ⟨#[]⟩ ⟨#[]⟩ ⟨#[]⟩ ⟨none, 0, 0⟩ [] ⟨A, n, c⟩ ts
theorem root_okP {A : Option Addr} {n c : Nat} {ts : List P8.TV} (h : P10.okL (ts.map P8.er) = true) (hl : ts.length ≤ 100000) : P10.okP (P8.er (rootV A n c ts)) = true := by
  have hz : (⟨#[]⟩ : ByteArray).size ≤ 100000 := by decide
  rw [rootV, P8.er, P8.erL_map, P10.okP]
  simp only [h, P10.okA, List.length_nil, List.all_nil, Bool.and_true, Bool.and_eq_true, decide_eq_true_eq, List.length_map]
  exact ⟨⟨⟨⟨hz, hz⟩, hz⟩, by omega⟩, hl⟩
theorem alike17_any {ts us : List P8.TV} {A B : Option Addr} {n c m d : Nat} (w : World) (h1 : ts.length = n) (h2 : n ≤ c) (h3 : A = none → c = 0) (h4 : P8.kT.Holds w w.heap.size A ts) (h5 : ∀ t ∈ ts, P8.TOk w w.heap.size t)
    (k1 : us.length = m) (k2 : m ≤ d) (k3 : B = none → d = 0) (k4 : P8.kT.Holds w w.heap.size B us) (k5 : ∀ t ∈ us, P8.TOk w w.heap.size t) (hw : P10.okL (ts.map P8.er) = true) (hl : n ≤ 100000) (he : ts.map P8.er = us.map P8.er) :
    Calls Try.prog 7 #[.slice A n c, .slice B m d] w fun e w' => e = .returned (.bool true) ∧ Below w.heap.size w w' := by
  have hlen : ts.length = us.length := by have := congrArg List.length he; simpa using this
  have CS : Hid (Calls Try.prog 17 #[.agg #[.string ⟨#[]⟩, .string ⟨#[]⟩, .string ⟨#[]⟩, .slice none 0 0, .slice A n c], .agg #[.string ⟨#[]⟩, .string ⟨#[]⟩, .string ⟨#[]⟩, .slice none 0 0, .slice B m d]] w fun e w' => e = .returned (.bool true) ∧ Below w.heap.size w w') := Lib.hid (by
    have r1 : P8.TOk w w.heap.size (rootV A n c ts) := ⟨rfl, Nat.le_refl _, fun _ => rfl, Kind.Holds.nil _ _ _, h1, h2, h3, h4, h5⟩
    have r2 : P8.TOk w w.heap.size (rootV B m d us) := ⟨rfl, Nat.le_refl _, fun _ => rfl, Kind.Holds.nil _ _ _, k1, k2, k3, k4, k5⟩
    have := P10.rsame_ok (rootV A n c ts) (rootV B m d us) w r1 r2 (root_okP hw (by omega)) (root_okP (by rw [← he]; exact hw) (by omega))
    rw [show P8.er (rootV A n c ts) = P8.er (rootV B m d us) by rw [rootV, rootV, P8.er, P8.er, P8.erL_map, P8.erL_map, he], P8.sameP_refl] at this
    exact this)
  clear h1 h2 h3 h4 h5 k1 k2 k3 k4 k5 hw he hlen
  go_enter Try.func7, Try.ntmps7
  go_wp2_with fail
  refine CS.out.mono ?_
  rintro e w1 ⟨rfl, b1⟩
  have B1 := Lib.hid b1
  clear b1
  go_wp2_with fail
  go_ret
  exact ⟨rfl, B1.out⟩
/-! ### The contract -/
def DenV (w : World) (l : List P8.PT) (e : Ending) (w' : World) : Prop := ∃ (A : Option Addr) (n c : Nat) (us : List P8.TV), e = .returned (.slice A n c) ∧ us.map P8.er = l ∧ us.length = n ∧ n ≤ c ∧ c ≤ maxLen ∧ (A = none → c = 0) ∧ P8.kT.Holds w' w'.heap.size A us ∧ (∀ t ∈ us, P8.TOk w' w'.heap.size t) ∧ Below w.heap.size w w'
def DenC : Prop := ∀ (ts : List WV) (A : Option Addr) (n c : Nat) (os : List P8.TV) (A' : Option Addr) (n' c' : Nat) (w : World), Wm kW w A n c ts → (∀ t ∈ erL ts, WfW t) → P20.LastP (erL ts) → wtL (erL ts) ≤ 150 →
  P8.kT.Holds w w.heap.size A' os → os.length = n' → n' ≤ c' → c' ≤ maxLen → (∀ o ∈ os, P8.TOk w w.heap.size o) → P8.mayL (os.map P8.er) = true → P8.countL (os.map P8.er) ≤ 200 → Calls Try.prog 8 #[.slice A n c, .slice A' n' c'] w (DenV w (denP (erL ts) (os.map P8.er)))
/-! ### The law's wants -/
def Wants17V (w : World) (l : List In) (os : List P8.TV) (e : Ending) (w' : World) : Prop := Below w.heap.size w w' ∧ ((∃ (A : Option Addr) (n c : Nat), e = .returned (.tuple #[.slice A n c, .bool false])) ∨
  (∃ (A : Option Addr) (n c : Nat) (ts : List WV), e = .returned (.tuple #[.slice A n c, .bool true]) ∧ checkP l = 0 ∧ erL ts = wantP l ∧ Wm kW w' A n c ts ∧ P8.fewL (os.map P8.er) = true ∧ P8.mayL (os.map P8.er) = true ∧ P8.countL (os.map P8.er) ≤ 60))
set_option maxRecDepth 100000 in
set_option maxHeartbeats 4000000 in
theorem wants17_any (W14 : WOfC) (l : List In) (A : Option Addr) (n c : Nat) (os : List P8.TV) (A' : Option Addr) (n' c' : Nat) (w : World) (hh : kX.Holds w w.heap.size A l) (hn : l.length = n) (hnc : n ≤ c) (hcm : c ≤ maxLen)
    (hh' : P8.kT.Holds w w.heap.size A' os) (hn' : os.length = n') (hnc' : n' ≤ c') (hcm' : c' ≤ maxLen) (hok : ∀ o ∈ os, P8.TOk w w.heap.size o) (hfit : ∀ o ∈ os, P8.TFit o) :
    Calls Try.prog 6 #[.slice A n c, .slice A' n' c'] w (Wants17V w l os) := by
  have q2 := err_eql_nil
  have q4 := nil_eql_nil
  have HO := Lib.hid W14
  have KH := Lib.hid hh
  have KN := Lib.hid hn
  have KC := Lib.hid hcm
  have OH := Lib.hid hh'
  have ON := Lib.hid hn'
  have OS := Lib.hid hok
  have hnm : n ≤ maxLen := by omega
  have MA : Hid (Calls Try.prog 15 #[.slice A' n' c', .int .i64 60] w (P9.ManiedL w 60 os)) := Lib.hid (P9.manyAll_any os 60 w A' n' c' (by omega) hh' hn' hnc' hcm' hok hfit)
  clear hh hn hcm hh' hn' hok hfit
  go_enter Try.func6, Try.ntmps6
  go_wp2_with fail
  refine (fewX_any l A n c w KN.out hnm KH.out).mono ?_
  rintro e w' ⟨hv, rfl⟩
  rcases hv with rfl | ⟨rfl, hl150, hsm⟩
  · go_wp2_with fail
    go_ret2
    exact ⟨Below.refl _ _, Or.inl ⟨_, _, _, rfl⟩⟩
  have HSM := Lib.hid hsm
  have h150 : n ≤ 150 := by have := KN.out; omega
  clear hl150 hsm
  go_wp2_with fail
  refine MA.out.mono ?_
  rintro e w1 ⟨m, rfl, hm1, hm2, b1⟩
  have B1 := Lib.hid b1
  clear b1 MA
  by_cases h60 : 60 < m
  · have q60 : decide ((60 : Int) < (m : Int)) = true := by simp; omega
    go_wp2_with fail
    go_ret2
    exact ⟨B1.out, Or.inl ⟨_, _, _, rfl⟩⟩
  have q60 : decide ((60 : Int) < (m : Int)) = false := by simp; omega
  obtain ⟨hmc, hfew⟩ := hm2 (by omega)
  rw [P8.erL_map] at hmc hfew
  have HCT : Hid (P8.countL (os.map P8.er) ≤ 60) := Lib.hid (by omega)
  have HFW := Lib.hid hfew
  have hn60 : n' ≤ 60 := by have h1 := P8.len_le_count (os.map P8.er); have := HCT.out; have := ON.out; rw [List.length_map] at h1; omega
  clear hmc hfew hm1 hm2 h60
  have ST : Hid (∃ (k : Nat), k ≤ n' ∧ (Value.int .i64 0) = .int .i64 k ∧ Hid (P8.mayL ((os.map P8.er).take k) = true) ∧ Hid (Below w1.heap.size w1 w1)) := Lib.hid ⟨0, by omega, rfl, Lib.hid (by simp [P8.mayL]), Lib.hid (Below.refl _ _)⟩
  go_wp2_with fail
  go_loopw [6] (fun s6 wr => ∃ (k : Nat), k ≤ n' ∧ s6 = .int .i64 k ∧ Hid (P8.mayL ((os.map P8.er).take k) = true) ∧ Hid (Below w1.heap.size w1 wr)) (fun s6 _ => n' - (intOf s6).toNat)
  case atStart => exact ST.out
  case round =>
    obtain ⟨k, hk, rfl, HMY, HB⟩ := hrel
    clear ST
    have XW : Hid (Below w.heap.size w wr) := Lib.hid (B1.out.trans (HB.out.mono B1.out.size))
    by_cases hkn : k < n'
    · have hkl : k < os.length := by have := ON.out; omega
      have hke : k < (os.map P8.er).length := by simpa using hkl
      obtain ⟨b, o, rfl, hb, g0, g1, g2, g3, g4⟩ := P8.cell_of_trees (OH.out.on XW.out) hkl
      have NXT : Hid (P8.mayP (P8.er os[k]) = true → P8.mayL ((os.map P8.er).take (k + 1)) = true) := Lib.hid (fun h => P8.mayL_take hke HMY.out (by rw [List.getElem_map]; exact h))
      have CM : Hid (Calls Try.prog 11 #[.agg #[.string os[k].tag, .string os[k].txt, .string os[k].key, .slice os[k].sa.A os[k].sa.n os[k].sa.c, .slice os[k].sk.A os[k].sk.n os[k].sk.c]] wr fun e w' => e = .returned (.bool (P8.mayP (P8.er os[k]))) ∧ Below wr.heap.size wr w') := Lib.hid (by
        have h1 := P8.fewL_at hke HFW.out
        have h2 := P8.countL_at hke
        rw [List.getElem_map] at h1 h2
        exact P8.rmay8_any os[k] wr ((OS.out _ (List.getElem_mem hkl)).on XW.out) h1 (by have := HCT.out; omega))
      generalize os[k] = d at g0 g1 g2 g3 g4 CM NXT
      clear hkl hke
      generalize P8.mayP (P8.er d) = mb at CM NXT
      go_wp2_with fail
      refine CM.out.mono ?_
      rintro e w2 ⟨rfl, b2⟩
      have B2 : Hid (Below w1.heap.size w1 w2) := Lib.hid (HB.out.trans (b2.mono HB.out.size))
      clear b2 CM
      cases mb with
      | false =>
        go_wp2_with fail
        go_ret2
        exact ⟨B1.out.trans (B2.out.mono B1.out.size), Or.inl ⟨_, _, _, rfl⟩⟩
      | true =>
        have NX2 := Lib.hid (NXT.out rfl)
        go_wp2_with fail
        go_roundw
        case rel => exact ⟨k + 1, by omega, by go_num, NX2, B2⟩
        case measure => simp [intOf]; omega
    · obtain rfl : k = n' := by omega
      have HML : Hid (P8.mayL (os.map P8.er) = true) := Lib.hid (by have := HMY.out; rw [List.take_of_length_le (by have := ON.out; simp; omega)] at this; exact this)
      have D1 := Lib.hid (HO.out l A n c wr (KH.out.on XW.out) KN.out hnc KC.out (by omega) HSM.out)
      obtain ⟨r, hr⟩ : ∃ r, checkP l = r := ⟨_, rfl⟩
      have HR := Lib.hid hr
      clear hr
      go_wp2_with fail
      refine D1.out.mono ?_
      rintro e w2 ⟨A2, n2, c2, ts, rfl, her, hm, b2⟩
      have B2 : Hid (Below w.heap.size w w2) := Lib.hid (XW.out.trans (b2.mono XW.out.size))
      have HM := Lib.hid hm
      have HER := Lib.hid her
      rw [HR.out]
      clear b2 D1 hm her
      simp only
      by_cases hr0 : r = 0
      · subst hr0
        have e0 : errV (((0 : Nat)) : Int) = .nilIface := rfl
        rw [e0]
        have E2 : Hid (erL ts = wantP l) := Lib.hid (by rw [HER.out, if_pos HR.out])
        go_upto_region 10 with fail
        go_quiet (fail)
        go_wp2_with fail
        go_ret2
        exact ⟨Below_drewN B2.out _, Or.inr ⟨_, _, _, ts, rfl, HR.out, E2.out, HM.out.on (Below_drewN (Below.refl _ _) _), HFW.out, HML.out, HCT.out⟩⟩
      · have e7 : errV (r : Int) = .iface 88 (.int .i64 r) := by unfold errV; rw [if_neg (by omega)]
        rw [e7]
        go_upto_region 10 with fail
        go_quiet (fail)
        go_wp2_with fail
        go_ret2
        exact ⟨Below_drewN B2.out _, Or.inl ⟨_, _, _, rfl⟩⟩
def UpC : Prop := ∀ w : World, Calls Try.prog 5 #[] w fun e w' => e = .returned (.bool true) ∧ Below w.heap.size w w'
theorem few_small {l : List P8.PT} (h : P8.fewL l = true) (hc : P8.countL l ≤ 60) : P10.okL l = true := P10.fewL_ok h (by omega)
theorem mayA_len {l : List P3.At} (h : P3.mayA l = true) : l.length ≤ 8 := by
  unfold P3.mayA at h
  simp only [Bool.and_eq_true, decide_eq_true_eq] at h
  omega
theorem may_wt : ∀ (t : P8.PT), P8.mayP t = true → wtP t ≤ 9 * P8.countP t := by
  intro t
  induction t using P8.PT.ind with
  | h tag txt key attrs kids ih =>
    intro h
    rw [P8.mayP] at h
    split at h
    · simp only [Bool.and_eq_true, List.isEmpty_iff] at h
      obtain ⟨⟨_, rfl⟩, rfl⟩ := h
      simp [wtP, wtPL, P8.countP, P8.countL]
    · simp only [Bool.and_eq_true] at h
      have h1 := mayA_len h.1.1.1.2
      have h2 : wtPL kids ≤ 9 * P8.countL kids := by
        have hf := h.2
        rw [P8.mayL_all, List.all_eq_true] at hf
        clear h h1
        induction kids with
        | nil => simp [wtPL]
        | cons a r ihr =>
          have := ih a (by simp) (hf a (by simp))
          have := ihr (fun k hk => ih k (by simp [hk])) (fun k hk => hf k (by simp [hk]))
          rw [wtPL, P8.countL]
          omega
      rw [wtP, P8.countP]
      omega
theorem may_wtL : ∀ {l : List P8.PT}, P8.mayL l = true → wtPL l ≤ 9 * P8.countL l
  | [], _ => by simp [wtPL]
  | a :: r, h => by
    rw [P8.mayL, Bool.and_eq_true] at h
    have := may_wt a h.1
    have := may_wtL h.2
    rw [wtPL, P8.countL]
    omega
set_option maxRecDepth 100000 in
set_option maxHeartbeats 4000000 in
theorem tells17_of (UP : UpC) (W14 : WOfC) (C : DenC) (l : List In) (A : Option Addr) (n c : Nat) (os : List P8.TV) (A' : Option Addr) (n' c' : Nat) (w : World) (hh : kX.Holds w w.heap.size A l) (hn : l.length = n) (hnc : n ≤ c) (hcm : c ≤ maxLen)
    (hh' : P8.kT.Holds w w.heap.size A' os) (hn' : os.length = n') (hnc' : n' ≤ c') (hcm' : c' ≤ maxLen) (hok : ∀ o ∈ os, P8.TOk w w.heap.size o) (hfit : ∀ o ∈ os, P8.TFit o) :
    Calls Try.prog 3 #[.slice A n c, .slice A' n' c'] w fun e w' => e = .returned (.bool true) ∧ Below w.heap.size w w' := by
  have HU := Lib.hid UP
  have HC := Lib.hid C
  have OH := Lib.hid hh'
  have ON := Lib.hid hn'
  have OS := Lib.hid hok
  have OC := Lib.hid hcm'
  have WN : Hid (∀ w9, Below w.heap.size w w9 → Calls Try.prog 6 #[.slice A n c, .slice A' n' c'] w9 (Wants17V w9 l os)) := Lib.hid (fun w9 h => wants17_any W14 l A n c os A' n' c' w9 (hh.on h) hn hnc hcm (hh'.on h) hn' hnc' hcm' (fun o ho => (hok o ho).on h) hfit)
  clear hh hn hcm hh' hn' hcm' hok hfit UP C
  go_enter Try.func3, Try.ntmps3
  go_wp2_with fail
  refine (HU.out w).mono ?_
  rintro e w1 ⟨rfl, b1⟩
  have B1 := Lib.hid b1
  clear b1 HU
  go_wp2_with fail
  refine (WN.out w1 B1.out).mono ?_
  rintro e w2 ⟨b2, hv⟩
  have B2 := Lib.hid (B1.out.trans (b2.mono B1.out.size))
  clear b2 WN
  rcases hv with ⟨A2, n2, c2, rfl⟩ | ⟨A2, n2, c2, ts, rfl, hck, her, hm, hfew, hmay, hcnt⟩
  · go_wp2_with fail
    go_ret
    exact ⟨rfl, B2.out⟩
  have HM := Lib.hid hm
  have HWT := Lib.hid (wt_small hck)
  have HWF : Hid (∀ t ∈ erL ts, WfW t) := Lib.hid (by rw [her]; exact (want_back hck).2)
  have HLP : Hid (P20.LastP (erL ts)) := Lib.hid (by rw [her]; exact P20.last_all hck)
  have HFW := Lib.hid hfew
  have HCT := Lib.hid hcnt
  have HMY := Lib.hid hmay
  rw [← her] at HWT
  have D1 := Lib.hid (HC.out ts A2 n2 c2 os A' n' c' w2 hm HWF.out HLP.out (by have := HWT.out; omega) (OH.out.on B2.out) ON.out hnc' OC.out (fun o ho => (OS.out o ho).on B2.out) hmay (by omega))
  clear hck her hm hfew hmay hcnt
  go_wp2_with fail
  refine D1.out.mono ?_
  rintro e w3 ⟨A3, n3, c3, us, rfl, hus, u1, u2, u3, u4, u5, u6, b3⟩
  have X3 := Lib.hid b3
  have B3 := Lib.hid (B2.out.trans (b3.mono B2.out.size))
  have HUS := Lib.hid hus
  have U := Lib.hid (And.intro u1 (And.intro u2 (And.intro u4 (And.intro u5 u6))))
  have CA : Hid (Calls Try.prog 10 #[.slice A2 n2 c2] w3 (Mv w3.heap.size w3 (erL ts))) := Lib.hid (by
    have h := HM.out.on X3.out
    exact as_any ts w3.heap.size w3 A2 n2 c2 (Nat.le_refl _) h.holds h.len h.ok (by have := HWT.out; omega))
  clear b3 hus u1 u2 u4 u5 u6 D1
  go_wp2_with fail
  refine CA.out.mono ?_
  rintro e w4 ⟨A4, n4, c4, qs, rfl, hqs, own4, mix4, b4⟩
  have X4 := Lib.hid b4
  have B4 := Lib.hid (B3.out.trans (b4.mono B3.out.size))
  have O4 := ownK_is own4
  have CT : Hid (Calls Try.prog 9 #[.slice A4 n4 c4, .slice A' n' c'] w4 (TrV w4.heap.size w4 (denP (erL ts) (os.map P8.er)))) := Lib.hid (by
    have := rtrees_any qs w4.heap.size os A4 n4 c4 A' n' c' w4 (Nat.le_refl _) O4.2.2.2.2 O4.1 (fun t ht => (mix4 t ht).ok b4.size) (by rw [hqs]; have := HWT.out; omega) (OH.out.on B4.out) ON.out (fun o ho => (OS.out o ho).on B4.out) (by have := may_wtL HMY.out; have := HCT.out; omega)
    rw [hqs] at this
    exact this)
  clear b4 O4 own4 mix4 hqs CA
  go_wp2_with fail
  refine CT.out.mono ?_
  rintro e w5 ⟨A5, n5, c5, vs, rfl, hvs, own5, q5, b5⟩
  have B5 := Lib.hid (B4.out.trans (b5.mono B4.out.size))
  have O5 := own_isU own5
  have DK := den_ok HWF.out (by have := HWT.out; omega) (few_small HFW.out HCT.out) (by have := HCT.out; omega)
  have X5 := X4.out.trans (b5.mono X4.out.size)
  have CL : Hid (Calls Try.prog 7 #[.slice A3 n3 c3, .slice A5 n5 c5] w5 fun e w' => e = .returned (.bool true) ∧ Below w5.heap.size w5 w') := Lib.hid (by
    obtain ⟨u1, u2, u4, u5, u6⟩ := U.out
    exact alike17_any w5 u1 u2 u4 (u5.on X5) (fun t ht => (u6 t ht).on X5) O5.1 O5.2.1 O5.2.2.2.1 O5.2.2.2.2 (fun t ht => (q5 t ht).ok) (by rw [HUS.out]; exact DK.1) (by have h1 := congrArg List.length HUS.out; rw [List.length_map] at h1; omega) (by rw [HUS.out, hvs]))
  clear O5 DK X5 own5 q5 b5 hvs CT
  go_wp2_with fail
  refine CL.out.mono ?_
  rintro e w6 ⟨rfl, b6⟩
  have B6 := Lib.hid (B5.out.trans (b6.mono B5.out.size))
  clear b6
  go_wp2_with fail
  go_ret
  exact ⟨rfl, B6.out⟩
end Go.Proofs.Ythdgaoifbejpjaa.P17
