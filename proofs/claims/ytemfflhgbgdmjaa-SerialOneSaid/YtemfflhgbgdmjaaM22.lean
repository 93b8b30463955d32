/- What the laws' All and plain answer. No condition but those stated. -/
import Derived.Deep.DeepCutAuto
import Derived.Deep.CutBlock
import Derived.Test.YtemfflhgbgdmjaaM14
import Derived.Test.YtemfflhgbgdmjaaM19
set_option linter.unusedVariables false
set_option linter.unusedSimpArgs false
namespace Go.Proofs.Ytemfflhgbgdmjaa.P9
open Go.RowKit Kd P4 P5 P8

/-! ### All -/
def ManiedL (w : World) (most : Nat) (ts : List TV) (e : Ending) (w' : World) : Prop := ∃ m : Nat, e = .returned (.int .i64 m) ∧ m ≤ most + 1 ∧ (m ≤ most → m = countL (erL ts) ∧ fewL (erL ts) = true) ∧ Below w.heap.size w w'
set_option maxHeartbeats 2000000 in
theorem manyAll_any (ts : List TV) (most : Nat) (w : World) (A : Option Addr) (n c : Nat) (hmo : most ≤ 1000) (hh : kT.Holds w w.heap.size A ts) (hn : ts.length = n) (hnc : n ≤ c) (hc : c ≤ maxLen) (hok : ∀ t ∈ ts, TOk w w.heap.size t) (hfit : ∀ t ∈ ts, TFit t) :
    Calls Try.prog 7 #[.slice A n c, .int .i64 most] w (ManiedL w most ts) := by
  have KH := Lib.hid hh
  have KL := Lib.hid hn
  have KS := Lib.hid hok
  have HKS := Lib.hid hfit
  have EL : Hid ((erL ts).length = n) := Lib.hid (by rw [erL_map]; simpa using hn)
  unfold maxLen at hc
  clear hh hn hok hfit
  go_enter Try.func7, Try.ntmps7
  go_wp2_with fail
  go_loopw [5, 6] (fun s5 s6 wr => ∃ (k nn : Nat), k ≤ n ∧ nn ≤ most + 1 ∧ s6 = .int .i64 k ∧ s5 = .int .i64 nn ∧ Hid (nn ≤ most → nn = countL ((erL ts).take k) ∧ fewL ((erL ts).take k) = true) ∧ Hid (Below w.heap.size w wr)) (fun _ s6 _ => n - (intOf s6).toNat)
  case atStart => exact ⟨0, 0, by omega, by omega, rfl, rfl, Lib.hid (fun _ => by simp [countL, fewL]), Lib.hid (Below.refl _ _)⟩
  case round =>
    obtain ⟨k, nn, hk, hn2, rfl, rfl, HC, HB⟩ := hrel
    by_cases hkn : k < n
    · by_cases hnm : nn ≤ most
      · have hkl : k < ts.length := by have := KL.out; omega
        have hke : k < (erL ts).length := by rw [erL_map]; simpa using hkl
        have hee : (erL ts)[k] = er ts[k] := by simp [erL_map]
        have HCT := Lib.hid (countL_take hke)
        have HFT := Lib.hid (fun h1 => fewL_take hke h1)
        rw [hee] at HCT HFT
        obtain ⟨b, o, rfl, hb, g0, g1, g2, g3, g4⟩ := cell_of_trees (KH.out.on HB.out) hkl
        have hsub : ((most - nn : Nat) : Int) = (most : Int) - (nn : Int) := by omega
        have CK : Hid (Calls Try.prog 6 #[.agg #[.string ts[k].tag, .string ts[k].txt, .string ts[k].key, .slice ts[k].sa.A ts[k].sa.n ts[k].sa.c, .slice ts[k].sk.A ts[k].sk.n ts[k].sk.c], .int .i64 ((most : Int) - (nn : Int))] wr (Manied wr (most - nn) ts[k])) := Lib.hid (by
          rw [← hsub]
          exact many_any ts[k] (most - nn) wr (by omega) ((KS.out _ (List.getElem_mem hkl)).on HB.out) (HKS.out _ (List.getElem_mem hkl)))
        clear hee hsub
        generalize ts[k] = d at g0 g1 g2 g3 g4 CK HCT HFT
        go_wp2_with fail
        refine CK.out.mono ?_
        rintro e w2 ⟨m', rfl, hm1, hm2, hm3, b2⟩
        have B2 := Lib.hid (HB.out.trans (b2.mono HB.out.size))
        have HM3 := Lib.hid hm3
        clear b2 hm3
        go_wp2_with fail
        go_roundw
        case rel =>
          refine ⟨k + 1, nn + m', by omega, by omega, by go_num, by go_num, Lib.hid (fun hle => ?_), B2⟩
          obtain ⟨c1, c2⟩ := HM3.out (by omega)
          obtain ⟨d1, d2⟩ := HC.out (by omega)
          exact ⟨by rw [HCT.out]; omega, HFT.out d2 c2⟩
        case measure => simp [intOf]; omega
      · obtain rfl : nn = most + 1 := by omega
        go_wp2_with fail
        go_ret
        exact ⟨most + 1, rfl, by omega, fun h => by omega, HB.out⟩
    · obtain rfl : k = n := by omega
      by_cases hnm : nn ≤ most
      · go_wp2_with fail
        go_ret
        refine ⟨nn, rfl, hn2, fun _ => ?_, HB.out⟩
        have h1 := HC.out hnm
        rw [List.take_of_length_le (by have := EL.out; omega)] at h1
        exact h1
      · go_wp2_with fail
        go_ret
        exact ⟨nn, rfl, hn2, fun h => absurd h hnm, HB.out⟩

/-! ### plain -/
/-- is what stands ahead of place k a text? -/
def pv : List PT → Nat → Bool
  | _, 0 => false
  | l, k + 1 => match l[k]? with
    | some a => a.tag.toList.isEmpty
    | none => false
theorem pv_at {l : List PT} {k : Nat} (h : k < l.length) : pv l (k + 1) = l[k].tag.toList.isEmpty := by
  show (match l[k]? with | some a => a.tag.toList.isEmpty | none => false) = _
  rw [List.getElem?_eq_getElem h]
theorem plL_drop {l : List PT} {k : Nat} (h : k < l.length) : plL (l.drop k) (pv l k) = (plT l[k] && (!l[k].tag.toList.isEmpty || (!l[k].txt.toList.isEmpty && !pv l k)) && plL (l.drop (k + 1)) (pv l (k + 1))) := by
  rw [List.drop_eq_getElem_cons h, plL, pv_at h]
def PlainC (ts : List TV) : Prop := ∀ (w : World) (A : Option Addr) (n c : Nat), kT.Holds w w.heap.size A ts → ts.length = n → (∀ t ∈ ts, TOk w w.heap.size t) → fewL (erL ts) = true → countL (erL ts) ≤ 1000 →
  Calls Try.prog 13 #[.slice A n c] w fun e w' => e = .returned (.bool (plL (erL ts) false)) ∧ Below w.heap.size w w'
def NoSt (l : List P3.At) (k : Nat) : Prop := ∀ j (h : j < l.length), j < k → l[j].st = false
theorem noSt_all {l : List P3.At} (h : NoSt l l.length) : l.all (fun a => !a.st) = true := by
  rw [List.all_eq_true]
  intro a ha
  obtain ⟨j, hj, rfl⟩ := List.mem_iff_getElem.1 ha
  rw [h j hj hj]
  rfl
theorem noSt_bad {l : List P3.At} {k : Nat} (h : k < l.length) (hs : l[k].st = true) : l.all (fun a => !a.st) = false := by
  rw [List.all_eq_false]
  exact ⟨l[k], List.getElem_mem h, by simp [hs]⟩

set_option maxRecDepth 100000 in
set_option maxHeartbeats 4000000 in
theorem plain_of (ts : List TV) (IH : ∀ t ∈ ts, PlainC t.kids) : PlainC ts := by
  intro w A n c hh hn hok hf hc
  have KH := Lib.hid hh
  have KL := Lib.hid hn
  have KS := Lib.hid hok
  have HI : Hid (∀ t ∈ ts, PlainC t.kids) := Lib.hid IH
  have EL : Hid ((erL ts).length = n) := Lib.hid (by rw [erL_map]; simpa using hn)
  have F5 : Hid (∀ k (hk : k < ts.length), fewP (er ts[k]) = true ∧ countP (er ts[k]) ≤ 1000) := Lib.hid (fun k hk => by
    have hk' : k < (erL ts).length := by rw [erL_map]; simpa using hk
    have h1 := fewL_at hk' hf
    have h2 := countL_at hk'
    have e : (erL ts)[k] = er ts[k] := by simp [erL_map]
    rw [e] at h1 h2
    exact ⟨h1, by omega⟩)
  have hn1 : n ≤ 1000 := by have := len_le_count (erL ts); have := EL.out; omega
  clear hh hn hok hf hc IH
  go_enter Try.func13, Try.ntmps13
  go_wp2_with fail
  go_loopw [3] (fun s wr => ∃ (k : Nat), k ≤ n ∧ s = .int .i64 k ∧ Hid (plL (erL ts) false = plL ((erL ts).drop k) (pv (erL ts) k)) ∧ Hid (Below w.heap.size w wr)) (fun s _ => n - (intOf s).toNat)
  case atStart => exact ⟨0, by omega, rfl, Lib.hid rfl, Lib.hid (Below.refl _ _)⟩
  case round =>
    obtain ⟨k, hk, rfl, HP, HB⟩ := hrel
    by_cases hkn : k < n
    · have hkl : k < ts.length := by have := KL.out; omega
      have hke : k < (erL ts).length := by have := EL.out; omega
      have hee : (erL ts)[k] = er ts[k] := by simp [erL_map]
      have PV : Hid (plL (erL ts) false = (plT (er ts[k]) && (!ts[k].tag.toList.isEmpty || (!ts[k].txt.toList.isEmpty && !pv (erL ts) k)) && plL ((erL ts).drop (k + 1)) (pv (erL ts) (k + 1)))) := Lib.hid (by
        rw [HP.out, plL_drop hke, hee]
        cases ts[k]
        rfl)
      -- the tag ahead of it
      have PR : Hid (∀ (wz : World) (j : Nat), Below wr.heap.size wr wz → k = j + 1 → ∃ b o g, A = some ⟨b, o, none⟩ ∧ wz.cell? ⟨b, o + j * 5, none⟩ = some (.string g) ∧ g.toList.isEmpty = pv (erL ts) k) := Lib.hid (fun wz j hz h0 => by
        subst h0
        have hk1 : j < ts.length := by omega
        obtain ⟨b, o, h1, _, h2, _⟩ := cell_of_trees (KH.out.on (HB.out.trans (hz.mono HB.out.size))) hk1
        refine ⟨b, o, ts[j].tag, h1, h2, ?_⟩
        rw [pv_at (l := erL ts) (k := j) (by omega)]
        have e2 : (erL ts)[j]'(by omega) = er ts[j] := by simp [erL_map]
        rw [e2]
        cases ts[j]
        rfl)
      obtain ⟨b, o, rfl, hb, g0, g1, g2, g3, g4⟩ := cell_of_trees (KH.out.on HB.out) hkl
      have TK : Hid (TOk wr wr.heap.size ts[k]) := Lib.hid ((KS.out _ (List.getElem_mem hkl)).on HB.out)
      have CK : Hid (PlainC ts[k].kids) := Lib.hid (HI.out _ (List.getElem_mem hkl))
      obtain ⟨f1, f2⟩ := F5.out k hkl
      have G1 := Lib.hid f1
      have G2 := Lib.hid f2
      have PN : Hid (pv (erL ts) k = pv (erL ts) k) := Lib.hid rfl
      clear f1 f2 hee
      generalize ts[k] = d at g0 g1 g2 g3 g4 TK CK G1 G2 PV
      go_upto_region 5 with fail
      have NA : Hid (TB (wr.alloc (.cells #[.string d.tag, .string d.txt, .string d.key, .slice d.sa.A d.sa.n d.sa.c, .slice d.sk.A d.sk.n d.sk.c] 25)) wr.heap.size d) := Lib.hid (TB.new wr d)
      have BA : Hid (Below wr.heap.size wr (wr.alloc (.cells #[.string d.tag, .string d.txt, .string d.key, .slice d.sa.A d.sa.n d.sa.c, .slice d.sk.A d.sk.n d.sk.c] 25))) := Lib.hid ((Below.refl _ _).alloc (Nat.le_refl _) _)
      generalize wr.alloc (.cells #[.string d.tag, .string d.txt, .string d.key, .slice d.sa.A d.sa.n d.sa.c, .slice d.sk.A d.sk.n d.sk.c] 25) = wa at NA BA ⊢
      have a0 := NA.out.c0; have a1 := NA.out.c1; have a2 := NA.out.c2; have a3 := NA.out.c3; have a4 := NA.out.c4
      clear g0 g1 g2 g3 g4
      obtain ⟨q, hq⟩ : ∃ q, pv (erL ts) k = q := ⟨_, rfl⟩
      rw [hq] at PV PR
      have HQ := Lib.hid hq
      clear hq PN
      have PT9 : Hid (plT (er d) = (d.key.toList.isEmpty && d.attrs.all (fun a => !a.st) && plL (erL d.kids) false)) := Lib.hid (by cases d; rw [er, plT]; rfl)
      have DAL : Hid (d.attrs.length = d.sa.n) := Lib.hid TK.out.al
      have DKL : Hid (d.kids.length = d.sk.n) := Lib.hid TK.out.kl
      have DF : Hid (P3.fewA d.attrs = true ∧ fewL (erL d.kids) = true ∧ countL (erL d.kids) ≤ 1000) := Lib.hid (by
        have h1 := G1.out
        have h2 := G2.out
        obtain ⟨tag, txt, key, sa, attrs, sk, kids⟩ := d
        rw [er, fewP] at h1
        rw [er, countP] at h2
        simp only [Bool.and_eq_true] at h1
        refine ⟨h1.1.2, h1.2, ?_⟩
        show countL (erL kids) ≤ 1000
        omega)
      have hd20 : d.sa.n ≤ 20 := by have h1 := DF.out.1; have := DAL.out; unfold P3.fewA at h1; simp at h1; omega
      go_cut [41] (fun s wx => s = .bool (!d.key.toList.isEmpty || (d.tag.toList.isEmpty && (d.txt.toList.isEmpty || q))) ∧ Hid (wx = wa))
      case first =>
        cases kE : d.key.toList.isEmpty with
        | false =>
          go_wp2_with fail
          go_meet
          exact ⟨by first | rfl | simp [*], Lib.hid rfl⟩
        | true =>
        cases tE : d.tag.toList.isEmpty with
        | false =>
          go_wp2_with fail
          go_meet
          exact ⟨by first | rfl | simp [*], Lib.hid rfl⟩
        | true =>
        cases xE : d.txt.toList.isEmpty with
        | true =>
          go_wp2_with fail
          go_meet
          exact ⟨by first | rfl | simp [*], Lib.hid rfl⟩
        | false =>
        cases k with
        | zero =>
          obtain rfl : q = false := HQ.out.symm
          go_wp2_with fail
          go_meet
          exact ⟨by first | rfl | simp [*], Lib.hid rfl⟩
        | succ j =>
          obtain ⟨b', o', g, e1, g5, g6⟩ := PR.out wa j BA.out rfl
          injection e1 with e1
          injection e1 with e1 e2
          subst e1; subst e2
          cases q with
          | true =>
            go_wp2_with fail
            go_meet
            exact ⟨by first | rfl | simp [*], Lib.hid rfl⟩
          | false =>
            go_wp2_with fail
            go_meet
            exact ⟨by first | rfl | simp [*], Lib.hid rfl⟩
      case rest =>
        obtain ⟨rfl, HE⟩ := hcut
        obtain rfl := HE.out
        obtain ⟨w1, rfl⟩ : ∃ w1, w1 = wc := ⟨_, rfl⟩
        generalize hbd : (!d.key.toList.isEmpty || (d.tag.toList.isEmpty && (d.txt.toList.isEmpty || q))) = bd
        have HBD := Lib.hid hbd
        clear hbd
        have BB := Lib.hid (HB.out.trans (BA.out.mono HB.out.size))
        cases bd with
        | true =>
          go_wp2_with fail
          go_ret
          refine ⟨P3.ret_bool ?_, BB.out⟩
          rw [PV.out, PT9.out]
          have h := HBD.out
          revert h
          cases d.key.toList.isEmpty <;> cases d.tag.toList.isEmpty <;> cases d.txt.toList.isEmpty <;> cases q <;> simp
        | false =>
          have PW : Hid (plL (erL ts) false = (d.attrs.all (fun a => !a.st) && plL (erL d.kids) false && plL ((erL ts).drop (k + 1)) (pv (erL ts) (k + 1)))) := Lib.hid (by
            rw [PV.out, PT9.out]
            have h := HBD.out
            revert h
            cases d.key.toList.isEmpty <;> cases d.tag.toList.isEmpty <;> cases d.txt.toList.isEmpty <;> cases q <;> simp)
          have TK1 : Hid (TOk w1 w1.heap.size d) := Lib.hid (TK.out.on BA.out)
          clear PR PV HQ
          go_wp2_with fail
          go_loopw [5] (fun s wx => ∃ (j : Nat), j ≤ d.sa.n ∧ s = .int .i64 j ∧ Hid (NoSt d.attrs j) ∧ Hid (wx = w1)) (fun s _ => d.sa.n - (intOf s).toNat)
          case atStart => exact ⟨0, by omega, rfl, Lib.hid (fun j _ h => by omega), Lib.hid rfl⟩
          case round =>
            obtain ⟨j, hj, rfl, HNS, HE2⟩ := hrel
            obtain rfl := HE2.out
            by_cases hjn : j < d.sa.n
            · have hjl : j < d.attrs.length := by have := DAL.out; omega
              have AH := Lib.hid (p3holds TK1.out.ah)
              obtain ⟨b', o', hA', hb', _, _, h2⟩ := AH.out j hjl
              have NX : Hid (d.attrs[j].st = false → NoSt d.attrs (j + 1)) := Lib.hid (fun h i hi hij => by
                rcases Nat.lt_or_ge i j with e | e
                · exact HNS.out i hi e
                · obtain rfl : i = j := by omega
                  exact h)
              have BD : Hid (d.attrs[j].st = true → plL (erL ts) false = false) := Lib.hid (fun h => by rw [PW.out, noSt_bad hjl h]; rfl)
              generalize d.attrs[j].st = st at h2 NX BD
              rw [hA'] at a3
              cases st with
              | true =>
                go_wp2_with fail
                go_ret
                exact ⟨P3.ret_bool (BD.out (by first | trivial | rfl)).symm, BB.out⟩
              | false =>
                go_wp2_with fail
                go_roundw
                case rel => exact ⟨j + 1, by omega, by go_num, Lib.hid (NX.out (by first | trivial | rfl)), Lib.hid (by first | trivial | rfl)⟩
                case measure => simp [intOf]; omega
            · obtain rfl : j = d.sa.n := by omega
              have PX : Hid (plL (erL ts) false = (plL (erL d.kids) false && plL ((erL ts).drop (k + 1)) (pv (erL ts) (k + 1)))) := Lib.hid (by
                rw [PW.out, noSt_all (by rw [DAL.out]; exact HNS.out), Bool.true_and])
              generalize hpk : plL (erL d.kids) false = pk at PX
              have CP : Hid (Calls Try.prog 13 #[.slice d.sk.A d.sk.n d.sk.c] wr fun e w' => e = .returned (.bool pk) ∧ Below wr.heap.size wr w') := Lib.hid (by
                have := CK.out wr d.sk.A d.sk.n d.sk.c TK1.out.kh DKL.out TK1.out.ks DF.out.2.1 DF.out.2.2
                rw [hpk] at this
                exact this)
              clear hpk
              go_wp2_with fail
              refine CP.out.mono ?_
              rintro e w2 ⟨rfl, b2⟩
              have B2 := Lib.hid (BB.out.trans (b2.mono BB.out.size))
              clear b2
              cases pk with
              | false =>
                go_wp2_with fail
                go_ret
                exact ⟨P3.ret_bool (by rw [PX.out]; rfl), B2.out⟩
              | true =>
                go_wp2_with fail
                go_roundw
                case rel => exact ⟨k + 1, by omega, by go_num, Lib.hid (by rw [PX.out]; rfl), B2⟩
                case measure => simp [intOf]; omega
    · obtain rfl : k = n := by omega
      go_wp2_with fail
      go_ret
      refine ⟨P3.ret_bool ?_, HB.out⟩
      rw [HP.out, List.drop_of_length_le (by have := EL.out; omega), plL]
theorem plain_kids : ∀ t : TV, PlainC t.kids := by
  intro t
  induction t using TV.ind with
  | h tag txt key sa attrs sk kids ih => exact plain_of kids ih
theorem plain_any (ts : List TV) : PlainC ts := plain_of ts (fun t _ => plain_kids t)
end Go.Proofs.Ytemfflhgbgdmjaa.P9
