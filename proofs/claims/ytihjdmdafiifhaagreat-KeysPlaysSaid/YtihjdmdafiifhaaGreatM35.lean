/- The walk of KeysPlays, over the contracts of the program's keys. No condition but those stated. -/
import Derived.Deep.RegionHeld3
import Derived.Test.YtihjdmdafiifhaaGreatM33
import Derived.Test.YtihjdmdafiifhaaGreatM34
set_option linter.unusedVariables false
set_option linter.unusedSimpArgs false
set_option linter.unusedVariables false
set_option linter.unusedSimpArgs false
namespace Go.Proofs.YtihjdmdafiifhaaGreat.P15
open Go.RowKit Kd P4 P5 P6

/-- a deed -/
structure Dd where
  drop : Bool
  tag : ByteArray
  key : ByteArray
  id : Int
def Dd.cells (d : Dd) : List Value := [.bool d.drop, .string d.tag, .string d.key, .int .i64 d.id]
theorem infoDd : (Tryz.prog.info? 41).map (fun i => (i.zero, i.size, i.bytes)) = some (some (.agg #[.bool false, .string ⟨#[]⟩, .string ⟨#[]⟩, .int .i64 0]), 4, 48) := by kernel_rfl
def kDd : Kind Tryz.prog Dd where
  t := 24
  e := 41
  size := 4
  bytes := 48
  z := .agg #[.bool false, .string ⟨#[]⟩, .string ⟨#[]⟩, .int .i64 0]
  cs := Dd.cells
  ht := Tryz.underlying24
  info := info_ex infoDd
  hzs := rfl
  hpos := by decide
  hbb := by decide
  len := fun _ => rfl
  one := fun a u hu => by simp [Dd.cells] at hu; rcases hu with rfl | rfl | rfl | rfl <;> rfl
theorem cell_of_dd {w : World} {B : Nat} {A : Option Addr} {l : List Dd} (h : kDd.Holds w B A l) {k : Nat} (hk : k < l.length) :
    ∃ b o, A = some ⟨b, o, none⟩ ∧ b < B ∧ w.cell? ⟨b, o + k * 4, none⟩ = some (.bool l[k].drop) ∧ w.cell? ⟨b, o + k * 4 + 1, none⟩ = some (.string l[k].tag) ∧ w.cell? ⟨b, o + k * 4 + 2, none⟩ = some (.string l[k].key) ∧ w.cell? ⟨b, o + k * 4 + 3, none⟩ = some (.int .i64 l[k].id) := by
  obtain ⟨b, o, rfl, hb, hc⟩ := h.at hk
  exact ⟨b, o, rfl, hb, hc 0 _ rfl, hc 1 _ rfl, hc 2 _ rfl, hc 3 _ rfl⟩
theorem take_nodup {ids : List Int} {k : Nat} (hk : k < ids.length) (h : (ids.take k).Nodup) (hn : ∀ a (h : a < ids.length), a < k → ids[a] ≠ ids[k]) : (ids.take (k + 1)).Nodup := by
  rw [List.take_succ_eq_append_getElem hk, List.nodup_append]
  refine ⟨h, by simp, fun a ha b hb => ?_⟩
  rw [List.mem_singleton] at hb
  subst hb
  obtain ⟨j, hj, rfl⟩ := List.mem_iff_getElem.1 ha
  rw [List.length_take] at hj
  rw [List.getElem_take]
  exact hn j (by omega) (by omega)
theorem keyed_take {l : List Nd} {ids : List Int} {k : Nat} (hk : k < ids.length) : cids (keyedL l (ids.take (k + 1))) = cids (keyedL l (ids.take k)) ++ cids (keyedL l [ids[k]]) := by
  rw [List.take_succ_eq_append_getElem hk, keyed_snoc]
  unfold cids
  rw [List.map_append]
theorem keyed_one_none {l : List Nd} {i : Int} (h : find l i = none) : cids (keyedL l [i]) = [] := by rw [keyedL, h]; rfl
theorem keyed_one_some {l : List Nd} {i : Int} {x : Nd} (h : find l i = some x) : cids (keyedL l [i]) = if keyN x then [i] else [] := by
  rw [keyedL, h]
  simp only
  cases keyN x <;> rfl
theorem cids_len (l : List Nd) (ids : List Int) : (cids (keyedL l ids)).length ≤ ids.length := by
  have := keyed_len l ids
  simpa [cids] using this
theorem own_all {P : Program} {α : Type} {K : Kind P α} {w : World} {B n c : Nat} {A : Option Addr} {l : List α} (h : K.Own w B (.slice A n c) l) : l.length = n ∧ n ≤ c ∧ c ≤ maxLen ∧ (A = none → c = 0) ∧ K.Holds w w.heap.size A l := by
  obtain ⟨A', n', c', hv, e1, e2, e3, e4, e5⟩ := h.slice
  injection hv with h1 h2 h3
  subst h1; subst h2; subst h3
  exact ⟨e1, e2, e3, e4, e5⟩
/-- the first loop -/
def OwRel (w3 : World) (l : List Nd) (ids : List Int) (n : Nat) (s10 s11 : Value) (wr : World) : Prop := ∃ (k : Nat) (A' : Option Addr) (n' c' : Nat), k ≤ n ∧ s11 = .int .i64 k ∧ s10 = .slice A' n' c' ∧
  Hid (kI.Own wr w3.heap.size (.slice A' n' c') (cids (keyedL l (ids.take k)))) ∧ Hid ((ids.take k).Nodup) ∧ Hid (Below w3.heap.size w3 wr)
def DuRel (wo : World) (ids : List Int) (k : Nat) (i : Int) (s12 : Value) (wr : World) : Prop := ∃ j : Nat, j ≤ k ∧ s12 = .int .i64 j ∧ Hid (∀ a (h : a < ids.length), a < j → ids[a] ≠ i) ∧ Hid (Below wo.heap.size wo wr)
/-- the second loop of deeds -/
def PlRel (Mp : World → Nat → MS → (Nat → Prop) → (Nat → Prop) → Prop) (w3 : World) (l : List Nd) (ids : List Int) (p g n2 : Nat) (s10 s15 : Value) (wr : World) : Prop := ∃ (i : Nat) (A' : Option Addr) (n' c' : Nat) (left : List Ch), i ≤ n2 ∧ s15 = .int .i64 i ∧ s10 = .slice A' n' c' ∧ Hid (Sit Mp w3 l ids p g (.slice A' n' c') (cids left) left wr)
def PoRel (wo : World) (ol : List Int) (di : Int) (n : Nat) (s16 s17 : Value) (wr : World) : Prop := ∃ j : Nat, j ≤ n ∧ s17 = .int .i64 j ∧ s16 = .int .i64 (posI ol di j) ∧ Hid (Below wo.heap.size wo wr)
set_option maxRecDepth 100000 in
set_option maxHeartbeats 16000000 in
theorem plays15_any (KC : KeysC) (ds : List RE) (ids : List Int) (dl : List Dd) (A : Option Addr) (m c : Nat) (A1 : Option Addr) (n1 c1 : Nat) (A2 : Option Addr) (n2 c2 : Nat) (w : World) (hm : ds.length = m) (hmc : m ≤ c) (hcm : c ≤ maxLen) (hwf : ∀ d ∈ ds, DeedOk w d) (H : kE.Holds w w.heap.size A ds)
    (hn1 : ids.length = n1) (hc1 : n1 ≤ c1) (hm1 : c1 ≤ maxLen) (hz1 : A1 = none → c1 = 0) (H1 : kI.Holds w w.heap.size A1 ids) (hn2 : dl.length = n2) (H2 : kDd.Holds w w.heap.size A2 dl) :
    Calls Tryz.prog 3 #[.slice A m c, .slice A1 n1 c1, .slice A2 n2 c2] w fun e w' => e = .returned (.bool true) ∧ Below w.heap.size w w' := by
  have HU := Lib.hid (up15_any KC)
  have HK := Lib.hid KC
  have HH := Lib.hid H
  have HM := Lib.hid hm
  have HF := Lib.hid hwf
  have HH1 := Lib.hid H1
  have HN1 := Lib.hid hn1
  have HC1 : Hid (n1 ≤ c1 ∧ c1 ≤ maxLen ∧ (A1 = none → c1 = 0)) := Lib.hid ⟨hc1, hm1, hz1⟩
  have HH2 := Lib.hid H2
  have HN2 := Lib.hid hn2
  have hmx : m ≤ maxLen := by omega
  clear H hm hwf H1 hn1 hc1 hm1 hz1 H2 hn2 KC
  go_enter Tryz.func3, Tryz.ntmps3
  go_wp2_with fail
  refine (HU.out _).mono ?_
  rintro e w1 ⟨rfl, b1⟩
  have B1 := Lib.hid b1
  clear b1 HU
  go_wp2_with fail
  refine (fewM_any 40 (by omega) ds A m c _ HM.out hmx (HH.out.on B1.out) (fun d hd => (HF.out d hd).below B1.out)).mono ?_
  rintro e w2 ⟨f, rfl, hf, b2⟩
  have B2 := Lib.hid (B1.out.trans (b2.mono B1.out.size))
  clear b2
  rcases hf with rfl | ⟨rfl, hm40, h20⟩
  · go_wp2_with fail
    go_ret
    exact ⟨rfl, B2.out⟩
  by_cases h40 : 40 < n1
  · go_wp2_with fail
    go_ret
    exact ⟨rfl, B2.out⟩
  by_cases h41 : 40 < n2
  · go_wp2_with fail
    go_ret
    exact ⟨rfl, B2.out⟩
  rw [HM.out] at hm40
  have H20 := Lib.hid h20
  clear h20
  go_wp2_with fail
  refine (grown_any 30 (by omega) (by omega) ds A m c w2 HM.out (by omega) H20.out (fun d hd => (HF.out d hd).below B2.out) (HH.out.on B2.out)).mono ?_
  rintro e w3 ⟨p, q, x, y, rfl, hp, he, hwf, hn, b3⟩
  have B3 := Lib.hid (B2.out.trans (b3.mono B2.out.size))
  have P3 := Lib.hid hp
  have E3 := Lib.hid (show x.l = y.l from congrArg D.l he)
  have WX := Lib.hid hwf
  have WY : Hid (WF y.d) := Lib.hid (by rw [← he]; exact hwf)
  have AY : Hid (Asc y.l) := Lib.hid WY.out.asc
  have LY : y.rs.length ≤ 1000 := by have h1 := WY.out.len200; rw [show y.d.l = y.l from rfl, rl_len] at h1; omega
  have SM15 : Hid (∀ z ∈ y.l, z.id ≤ 1000000) := Lib.hid (fun z hz => by
    have h1 := (WY.out.rng z hz).2
    rw [← he, show x.d.n = x.n from rfl] at h1
    omega)
  clear hp he hwf b3 H20 HF HH HM hm40 hmx hn
  have I3 := Lib.hid (HH1.out.on B3.out)
  have ST : Hid (OwRel w3 y.l ids n1 (.slice none 0 0) (.int .i64 0) w3) := Lib.hid ⟨0, none, 0, 0, by omega, rfl, rfl, Lib.hid (Kind.Own.nil kI w3 _), Lib.hid (by simp), Lib.hid (Below.refl _ _)⟩
  go_wp2_with fail
  go_loopw [10, 11] (fun s10 s11 wr => OwRel w3 y.l ids n1 s10 s11 wr) (fun _ s11 _ => n1 - (intOf s11).toNat)
  case atStart => exact ST.out
  case round =>
    obtain ⟨k, A', n', c', hk, rfl, rfl, HO, HD, HB⟩ := hrel
    clear ST
    by_cases hkn : k < n1
    · have hkl : k < ids.length := by have := HN1.out; omega
      obtain ⟨b, o, rfl, hb, g0⟩ := cell_int (I3.out.on HB.out) hkl
      have GI : Hid (∀ wz, Below w3.heap.size w3 wz → ∀ j (hj : j < ids.length), wz.cell? ⟨b, o + j, none⟩ = some (.int .i64 ids[j])) := Lib.hid (fun wz hz j hj => by
        obtain ⟨b', o', hA, _, g⟩ := cell_int (I3.out.on hz) hj
        injection hA with hA
        injection hA with e1 e2
        subst e1; subst e2
        exact g)
      have NX : Hid ((∀ a (h : a < ids.length), a < k → ids[a] ≠ ids[k]) → (ids.take (k + 1)).Nodup) := Lib.hid (take_nodup hkl HD.out)
      have KT := Lib.hid (keyed_take (l := y.l) hkl)
      obtain ⟨i, hi⟩ : ∃ i, ids[k] = i := ⟨_, rfl⟩
      have GK : Hid (∀ wz, Below w3.heap.size w3 wz → wz.cell? ⟨b, o + k, none⟩ = some (.int .i64 i)) := Lib.hid (fun wz hz => by rw [← hi]; exact GI.out wz hz k hkl)
      rw [hi] at NX KT
      clear g0 hi hb
      have CL : Hid ((cids (keyedL y.l (ids.take k))).length ≤ 40) := Lib.hid (by have := cids_len y.l (ids.take k); rw [List.length_take] at this; omega)
      go_wp2_with fail
      obtain ⟨wo, rfl⟩ : ∃ wo : World, wo = wr := ⟨_, rfl⟩
      go_loopw [12] (fun s12 wi => DuRel wo ids k i s12 wi) (fun s12 _ => k - (intOf s12).toNat)
      case atStart => exact ⟨0, by omega, rfl, Lib.hid (fun a _ h => by omega), Lib.hid (Below.refl _ _)⟩
      case round =>
        obtain ⟨j, hj, rfl, HN, HBi⟩ := hrel
        have HBW := Lib.hid (HB.out.trans (HBi.out.mono HB.out.size))
        by_cases hjk : j < k
        · have hjl : j < ids.length := by omega
          have hd : wr.cell? ⟨b, o + j, none⟩ = some (.int .i64 ids[j]) := GI.out wr HBW.out j hjl
          have hc : wr.cell? ⟨b, o + k, none⟩ = some (.int .i64 i) := GK.out wr HBW.out
          obtain ⟨be, hbe⟩ : ∃ be, (ids[j] == i) = be := ⟨_, rfl⟩
          have HE := Lib.hid hbe
          have HJ : Hid (be = false → ∀ a (h : a < ids.length), a < j + 1 → ids[a] ≠ i) := Lib.hid (fun hf a ha hl => by
            by_cases e : a = j
            · subst e; rw [hf] at hbe; exact beq_eq_false_iff_ne.1 hbe
            · exact HN.out a ha (by omega))
          generalize ids[j] = ij at hd hbe HE
          go_wp2_with fail
          go_quiet (fail)
          have BQ := Lib.hid (Below_drewN HBi.out nq)
          have BQW := Lib.hid (Below_drewN HBW.out nq)
          clear hd hc
          generalize wr.drewN nq = wq at BQ BQW ⊢
          cases be with
          | true =>
            go_wp2_with fail
            go_ret
            exact ⟨rfl, B3.out.trans (BQW.out.mono B3.out.size)⟩
          | false =>
            have HJ2 := Lib.hid (HJ.out rfl)
            clear HJ
            go_wp2_with fail
            go_roundw
            case rel => exact ⟨j + 1, by omega, by go_num, HJ2, BQ⟩
            case measure => simp [intOf]; omega
        · obtain rfl : j = k := by omega
          have hc : wr.cell? ⟨b, o + j, none⟩ = some (.int .i64 i) := GK.out wr HBW.out
          have ND2 := Lib.hid (NX.out HN.out)
          have OW := Lib.hid (HO.out.below HBi.out (Nat.le_refl _))
          have RR := Lib.hid (P3.out.rf.below HBW.out)
          have hbw := HBW.out.size
          clear HN NX
          cases hf : find y.l i with
          | none =>
            have HNO : Hid (hasL y.l i = false) := Lib.hid (by unfold hasL; rw [hf]; rfl)
            have OW2 : Hid (kI.Own wr w3.heap.size (.slice A' n' c') (cids (keyedL y.l (ids.take (j + 1))))) := Lib.hid (by rw [KT.out, keyed_one_none hf, List.append_nil]; exact OW.out)
            clear hf
            go_wp2_with fail
            refine (at_no i wr LY HNO.out RR.out).mono ?_
            rintro e w' ⟨rfl, rfl⟩
            go_wp2_with fail
            go_roundw
            case rel => exact ⟨j + 1, A', n', c', by omega, by go_num, rfl, OW2, ND2, HBW⟩
            case measure => simp [intOf]; omega
          | some nx =>
            obtain ⟨jj, hjj, hy, hx⟩ := rplace AY.out (show hasL y.l i = true by unfold hasL; rw [hf]; rfl)
            obtain rfl : y.rs[jj].nd = nx := by rw [hf] at hx; injection hx with hx; exact hx.symm
            obtain ⟨b2, o2, cl, Aa, nn, ca, Ak, nk, ck, hv, hcl, hb2, d0, L, hva, hvk⟩ := RR.out.lies hjj
            obtain ⟨nl, hnl⟩ : ∃ nl, y.rs.length = nl := ⟨_, rfl⟩
            have hjn : jj < nl := by omega
            have hl2 : nl ≤ 1000 := by omega
            rw [hnl] at d0 hcl
            have AT : Hid (Calls Tryz.prog 8 #[.pointer (some ⟨q, 0, none⟩), .int .i64 i] wr fun e w' => e = .returned (.int .i64 jj) ∧ wr = w') := Lib.hid (at_yes i wr AY.out LY hjj hy RR.out)
            have K1 := Lib.hid (keyed_one_some hf)
            clear hf hx hy hv hva hvk hnl
            generalize y.rs[jj].nd = nd at L K1
            have l2 := L.c2; have l4 := L.c4
            clear L
            cases bt : nd.tag.toList.isEmpty with
            | true =>
              have OW2 : Hid (kI.Own wr w3.heap.size (.slice A' n' c') (cids (keyedL y.l (ids.take (j + 1))))) := Lib.hid (by rw [KT.out, K1.out, if_neg (by unfold keyN; rw [bt]; simp), List.append_nil]; exact OW.out)
              go_wp2_with fail
              refine AT.out.mono ?_
              rintro e w' ⟨rfl, rfl⟩
              go_wp2_with fail
              go_roundw
              case rel => exact ⟨j + 1, A', n', c', by omega, by go_num, rfl, OW2, ND2, HBW⟩
              case measure => simp [intOf]; omega
            | false =>
              cases bk : nd.key.toList.isEmpty with
              | true =>
                have OW2 : Hid (kI.Own wr w3.heap.size (.slice A' n' c') (cids (keyedL y.l (ids.take (j + 1))))) := Lib.hid (by rw [KT.out, K1.out, if_neg (by unfold keyN; rw [bt, bk]; simp), List.append_nil]; exact OW.out)
                go_wp2_with fail
                refine AT.out.mono ?_
                rintro e w' ⟨rfl, rfl⟩
                go_wp2_with fail
                go_roundw
                case rel => exact ⟨j + 1, A', n', c', by omega, by go_num, rfl, OW2, ND2, HBW⟩
                case measure => simp [intOf]; omega
              | false =>
                have KE : Hid (cids (keyedL y.l (ids.take j)) ++ [i] = cids (keyedL y.l (ids.take (j + 1)))) := Lib.hid (by rw [KT.out, K1.out, if_pos (by unfold keyN; rw [bt, bk]; rfl)])
                go_wp2_with fail
                refine AT.out.mono ?_
                rintro e w' ⟨rfl, rfl⟩
                go_wp2_with (at_builtin; refine kI.wp_app rfl _ _ rfl (v := .slice A' n' c') (l := cids (keyedL y.l (ids.take j))) (m := [i]) (B := w3.heap.size) rfl (OW.out.alloc _) rfl rfl (fun e => by cases e) (Kind.Holds.lit (heap_alloc_new _ _) rfl) (by have := CL.out; omega) (by simp; omega) ?_; intro v' w5 hown' hgrow hat; obtain ⟨A5, n5, c5, rfl, e1, e2, e3, e4, e5⟩ := hown'.slice; have B5 : Hid (Below w3.heap.size w3 w5) := Lib.hid ((HBW.out.alloc hbw _).grown hgrow (by simp; omega) (fun k hk => (OW.out.lt hk).1)); have O5 : Hid (kI.Own w5 w3.heap.size (.slice A5 n5 c5) (cids (keyedL y.l (ids.take (j + 1))))) := Lib.hid (by rw [← KE.out]; exact hown'); clear hown' hgrow hat e1 e2 e3 e4 e5)
                go_roundw
                case rel => exact ⟨j + 1, A5, n5, c5, by omega, by go_num, rfl, O5, ND2, B5⟩
                case measure => simp [intOf]; omega
    · obtain rfl : k = n1 := by omega
      have ND : Hid (ids.Nodup) := Lib.hid (by have := HD.out; rwa [List.take_of_length_le (by have := HN1.out; omega)] at this)
      have OW : Hid (kI.Own wr w3.heap.size (.slice A' n' c') (cids (keyedL y.l ids))) := Lib.hid (by have := HO.out; rwa [List.take_of_length_le (by have := HN1.out; omega)] at this)
      obtain ⟨Mp, K⟩ := HK.out
      have KK := Lib.hid K
      have KN : Hid (Calls Tryz.prog 9 #[.pointer (some ⟨p, 0, none⟩), .slice A1 k c1] wr (fun e w' => ∃ g, e = .returned (.pointer (some ⟨g, 0, none⟩)) ∧ Sit Mp w3 y.l ids p g (.slice A' n' c') (cids (keyedL y.l ids)) (keyedL y.l ids) w')) := Lib.hid ((K.new (some p) ids A1 k c1 wr (I3.out.on HB.out) HN1.out HC1.out.1 HC1.out.2.1 HC1.out.2.2 (by omega)).mono (by
        rintro e w' ⟨g, Rd, Wr, h1, h2, h3, h4, _⟩
        exact ⟨g, h1, _, Rd, Wr, OW.out.below h3 (Nat.le_refl _), h2, StOk.new WY.out.no0 ND.out (by have := HN1.out; omega) SM15.out, fun k hk => by have := h4 k hk; have := HB.out.size; omega, fun k hk hw => by have := h4 k hw; have := (OW.out.lt hk).2; omega, HB.out.trans (h3.mono HB.out.size)⟩))
      have I32 := Lib.hid (HH2.out.on B3.out)
      clear K HD HO HB OW HK HH1 HH2
      go_wp2_with fail
      refine KN.out.mono ?_
      rintro e w5 ⟨g, rfl, s5⟩
      have ST3 : Hid (PlRel Mp w3 y.l ids p g n2 (.slice A' n' c') (.int .i64 0) w5) := Lib.hid ⟨0, A', n', c', _, by omega, rfl, rfl, Lib.hid s5⟩
      clear s5 KN
      go_wp2_with fail
      go_loopw [10, 15] (fun s10 s15 wr => PlRel Mp w3 y.l ids p g n2 s10 s15 wr) (fun _ s15 _ => n2 - (intOf s15).toNat)
      case atStart => exact ST3.out
      case round =>
        obtain ⟨i, A', n', c', left, hi, rfl, rfl, HS⟩ := hrel
        clear ST3
        have Below3 : Hid (∀ wz, Below wr.heap.size wr wz → Below w3.heap.size w3 wz) := Lib.hid (fun wz hz => HS.out.out3.trans (hz.mono HS.out.out3.size))
        by_cases hin : i < n2
        · have hil : i < dl.length := by have := HN2.out; omega
          obtain ⟨b, o, rfl, hb, d0, d1, d2, d3⟩ := cell_of_dd (I32.out.on HS.out.out3) hil
          have GD : Hid (∀ wz, Below w3.heap.size w3 wz → wz.cell? ⟨b, o + i * 4, none⟩ = some (.bool dl[i].drop) ∧ wz.cell? ⟨b, o + i * 4 + 1, none⟩ = some (.string dl[i].tag) ∧ wz.cell? ⟨b, o + i * 4 + 2, none⟩ = some (.string dl[i].key) ∧ wz.cell? ⟨b, o + i * 4 + 3, none⟩ = some (.int .i64 dl[i].id)) := Lib.hid (fun wz hz => by
            obtain ⟨b', o', hA, _, g0, g1, g2, g3⟩ := cell_of_dd (I32.out.on hz) hil
            injection hA with hA
            injection hA with e1 e2
            subst e1; subst e2
            exact ⟨g0, g1, g2, g3⟩)
          generalize dl[i] = d at d0 d1 d2 d3 GD
          obtain ⟨dr, tg, ky, di⟩ := d
          simp only at d0 d1 d2 d3 GD
          by_cases t100 : 100 < tg.size
          · go_wp2_with fail
            go_ret
            exact ⟨rfl, B3.out.trans (HS.out.out3.mono B3.out.size)⟩
          by_cases k100 : 100 < ky.size
          · go_wp2_with fail
            go_ret
            exact ⟨rfl, B3.out.trans (HS.out.out3.mono B3.out.size)⟩
          cases dr with
          | true =>
            have OA := Lib.hid (own_all HS.out.own)
            have hn40 : n' ≤ 40 := by have h1 := OA.out.1; have h2 := HS.out.st.2.2; rw [cids, List.length_map] at h1; omega
            go_wp2_with fail
            obtain ⟨wo, rfl⟩ : ∃ wo : World, wo = wr := ⟨_, rfl⟩
            clear d0 d1 d2 d3
            go_loopw [16, 17] (fun s16 s17 wi => PoRel wo (cids left) di n' s16 s17 wi) (fun _ s17 _ => n' - (intOf s17).toNat)
            case atStart => exact ⟨0, by omega, rfl, rfl, Lib.hid (Below.refl _ _)⟩
            case round =>
              obtain ⟨j, hj, rfl, rfl, HBi⟩ := hrel
              have d3 := (GD.out wr (Below3.out wr HBi.out)).2.2.2
              by_cases hjn : j < n'
              · have hjl : j < (cids left).length := by rw [OA.out.1]; exact hjn
                obtain ⟨ob, oo, rfl, hob, g0⟩ := cell_int (OA.out.2.2.2.2.on HBi.out) hjl
                obtain ⟨be, hbe⟩ : ∃ be, ((cids left)[j] == di) = be := ⟨_, rfl⟩
                have PS : Hid (posI (cids left) di (j + 1) = if be then (j : Int) else posI (cids left) di j) := Lib.hid (by
                  rw [posI, List.getElem?_eq_getElem hjl, ← hbe]
                  by_cases e : (cids left)[j] = di
                  · rw [if_pos (by rw [e]), if_pos (by simp [e])]
                  · rw [if_neg (by intro h; injection h with h; exact e h), if_neg (by simp [e])])
                generalize (cids left)[j] = ij at g0 hbe
                generalize posI (cids left) di j = pj at PS ⊢
                go_wp2_with fail
                go_quiet (fail)
                have BQ := Lib.hid (Below_drewN HBi.out nq)
                clear g0 d3
                generalize wr.drewN nq = wq at BQ ⊢
                cases be <;>
                · go_wp2_with fail
                  go_roundw
                  case rel => exact ⟨j + 1, by omega, by go_num, by rw [PS.out]; rfl, BQ⟩
                  case measure => simp [intOf]; omega
              · obtain rfl : j = n' := by omega
                have SW := Lib.hid (HS.out.below KK.out HBi.out)
                have CD := sit_drop KK.out P3.out.dc WX.out E3.out (by have := HN1.out; omega) ND.out di SW.out
                cases hh : hasM left di with
                | false =>
                  rw [hh, drop_no hh] at CD
                  have hp : posI (cids left) di j = -1 := posI_no (fun e => by rw [has_ids.2 e] at hh; cases hh) j
                  rw [hp]
                  have CDH := Lib.hid CD
                  clear hh hp CD
                  go_wp2_with fail
                  refine CDH.out.mono ?_
                  rintro e w6 ⟨rfl, s6⟩
                  have S6 := Lib.hid s6
                  clear s6 CDH d3
                  have NQ2 : Hid ((left).length = j) := Lib.hid (by have := (own_all (S6.out).own).1; rw [cids, List.length_map] at this; exact this)
                  have CN2 : Hid (Calls Tryz.prog 13 #[.pointer (some ⟨g, 0, none⟩)] w6 fun e w' => e = .returned (.int .i64 (j : Nat)) ∧ Sit Mp w3 y.l ids p g (.slice A' j c') (cids (left)) (left) w') := Lib.hid (by
                    have := sit_len KK.out P3.out.dc WX.out E3.out (by have := HN1.out; omega) ND.out S6.out
                    rw [NQ2.out] at this
                    exact this)
                  go_wp2_with fail
                  refine CN2.out.mono ?_
                  rintro e wt2 ⟨rfl, st2⟩
                  have ST2 := Lib.hid st2
                  clear st2 CN2
                  go_wp2_with fail
                  go_roundw
                  case rel => exact ⟨i + 1, A', j, c', _, by omega, by go_num, rfl, ST2⟩
                  case measure => simp [intOf]; omega
                | true =>
                  rw [hh] at CD
                  obtain ⟨pk, hpk, he⟩ := List.mem_iff_getElem.1 (has_ids.1 hh)
                  have hp : posI (cids left) di j = (pk : Int) := by rw [posI_at HS.out.st.2.1 hpk he j, if_pos (by rw [← OA.out.1]; exact hpk)]
                  have FO : Hid ((cids left).take pk ++ (cids left).drop (pk + 1) = cids (dropM left di)) := Lib.hid (by rw [drop_ids, filter_out HS.out.st.2.1 hpk he])
                  rw [hp]
                  have CDH := Lib.hid CD
                  have hpj : pk < j := by rw [← OA.out.1]; exact hpk
                  clear hh hp CD he hpk
                  go_wp2_with fail
                  refine CDH.out.mono ?_
                  rintro e w6 ⟨rfl, s6⟩
                  have S6 := Lib.hid s6
                  have OB := Lib.hid (own_all s6.own)
                  clear s6 CDH d3
                  have hjc : j ≤ c' := OB.out.2.1
                  have hcm : c' ≤ 9223372036854775807 := by have := OB.out.2.2.1; unfold maxLen at this; omega
                  have hj40 : j ≤ 40 := by have h1 := OB.out.1; have h2 := HS.out.st.2.2; rw [cids, List.length_map] at h1; omega
                  obtain ⟨ob, oo, rfl, _, _⟩ := cell_int OB.out.2.2.2.2 (k := pk) (by rw [OB.out.1]; exact hpj)
                  have HT : Hid (kI.Holds w6 w6.heap.size (some ⟨ob, oo, none⟩) ((cids left).take pk)) := Lib.hid (OB.out.2.2.2.2.take pk)
                  have HR : Hid (kI.Holds w6 w6.heap.size (some ⟨ob, oo + (pk + 1), none⟩) ((cids left).drop (pk + 1))) := Lib.hid (by
                    have := OB.out.2.2.2.2.drop (pk + 1)
                    simpa [kI] using this)
                  have LT : Hid (((cids left).take pk).length = pk) := Lib.hid (by rw [List.length_take, OB.out.1]; omega)
                  have LR : Hid (((cids left).drop (pk + 1)).length = j - (pk + 1)) := Lib.hid (by rw [List.length_drop, OB.out.1])
                  have i1 : (0 : Int) ≤ (pk : Int) := by omega
                  have i2 : (pk : Int) ≤ (c' : Int) := by omega
                  have i3 : (0 : Int) ≤ (pk : Int) + 1 := by omega
                  have i4 : (pk : Int) + 1 ≤ (j : Int) := by omega
                  have i5 : (j : Int) ≤ (c' : Int) := by omega
                  have i6 : IntKind.i64.wrap ((pk : Int) + 1) = ((pk + 1 : Nat) : Int) := by
                    simp [IntKind.wrap, IntKind.bits, IntKind.signed]
                    omega
                  have i7 : ((pk + 1 : Nat) : Int) ≤ (j : Int) := by omega
                  have i8 : (0 : Int) ≤ ((pk + 1 : Nat) : Int) := by omega
                  obtain ⟨pe, hpe⟩ : ∃ pe, pk + 1 = pe := ⟨_, rfl⟩
                  rw [hpe] at HR LR i6 i7 i8 FO
                  have BZ : Hid (Below w6.heap.size w6 (w6.alloc (.cells #[] 3)).drew) := Lib.hid ((Below.refl _ _).alloc (Nat.le_refl _) _).drew
                  have OZ : Hid (kI.Own (w6.alloc (.cells #[] 3)).drew w6.heap.size (.slice (some ⟨w6.heap.size, 0, none⟩) 0 0) []) := Lib.hid (Kind.Own.made kI w6 _ (Nat.le_refl _))
                  by_cases hcap : c' = pe
                  · subst hcap
                    obtain rfl : j = c' := by omega
                    have HR2 : Hid (kI.Holds w6 w6.heap.size (some ⟨ob, oo, none⟩) ((cids left).drop j)) := Lib.hid (by rw [List.drop_of_length_le (by rw [OB.out.1]; exact Nat.le_refl _)]; exact Kind.Holds.nil _ _ _)
                    have LR2 : Hid (((cids left).drop j).length = 0) := Lib.hid (by rw [List.length_drop, OB.out.1]; omega)
                    clear HR LR
                    go_upto_region 38 with fail
                    go_region_held3 (fun _ => True) (trivial) ((first
                      | (refine kI.step_app rfl (.tmp 161) (.tmp 164) rfl (v := .slice (some ⟨w6.heap.size, 0, Option.none⟩) 0 0) (l := []) (m := (cids left).take pk) (B := w6.heap.size) rfl OZ.out rfl LT.out (fun e => by cases e) (HT.out.on BZ.out) (by simp; omega) BZ.out.size ?_; intro v7 w7 hown7 hgrow7 hat7; obtain ⟨A7, n7, c7, rfl, _, _, _, _, _⟩ := hown7.slice; have O7 := Lib.hid hown7; have B7 : Hid (Below w6.heap.size w6 w7) := Lib.hid (BZ.out.grown hgrow7 BZ.out.size (fun k hk => by simp [Value.ownBlock] at hk; omega)); have hz7 := B7.out.size; clear hown7 hgrow7 hat7)
                      | (refine kI.step_app rfl (.tmp 165) (.tmp 169) rfl (v := .slice A7 n7 c7) (l := [] ++ (cids left).take pk) (m := (cids left).drop j) (B := w6.heap.size) rfl O7.out rfl LR2.out (fun e => by cases e) (HR2.out.on B7.out) (by have := LT.out; have := LR2.out; simp; omega) hz7 ?_; intro v8 w8 hown8 hgrow8 hat8; obtain ⟨A8, n8, c8, rfl, _, _, _, _, _⟩ := hown8.slice; have O8 : Hid (kI.Own w8 w6.heap.size (.slice A8 n8 c8) (cids (dropM left di))) := Lib.hid (by rw [← FO.out]; exact hown8); have B8 : Hid (Below w6.heap.size w6 w8) := Lib.hid (Below.grown (a := w6) B7.out hgrow8 hz7 (fun k hk => (O7.out.lt hk).1)); clear hown8 hgrow8 hat8)
                      | fail))
                    all_goals
                      have S8 := Lib.hid (S6.out.list KK.out B8.out O8.out)
                      have NQ3 : Hid ((dropM left di).length = n8) := Lib.hid (by have := (own_all (S8.out).own).1; rw [cids, List.length_map] at this; exact this)
                      have CN3 : Hid (Calls Tryz.prog 13 #[.pointer (some ⟨g, 0, none⟩)] w8 fun e w' => e = .returned (.int .i64 (n8 : Nat)) ∧ Sit Mp w3 y.l ids p g (.slice A8 n8 c8) (cids (dropM left di)) (dropM left di) w') := Lib.hid (by
                        have := sit_len KK.out P3.out.dc WX.out E3.out (by have := HN1.out; omega) ND.out S8.out
                        rw [NQ3.out] at this
                        exact this)
                      go_wp2_with fail
                      refine CN3.out.mono ?_
                      rintro e wt3 ⟨rfl, st3⟩
                      have ST3 := Lib.hid st3
                      clear st3 CN3
                      go_wp2_with fail
                      go_roundw
                      case rel => exact ⟨i + 1, A8, n8, c8, _, by omega, by go_num, rfl, ST3⟩
                      case measure => simp [intOf]; omega
                  · go_upto_region 38 with fail
                    go_region_held3 (fun _ => True) (trivial) ((first
                      | (refine kI.step_app rfl (.tmp 161) (.tmp 164) rfl (v := .slice (some ⟨w6.heap.size, 0, Option.none⟩) 0 0) (l := []) (m := (cids left).take pk) (B := w6.heap.size) rfl OZ.out rfl LT.out (fun e => by cases e) (HT.out.on BZ.out) (by simp; omega) BZ.out.size ?_; intro v7 w7 hown7 hgrow7 hat7; obtain ⟨A7, n7, c7, rfl, _, _, _, _, _⟩ := hown7.slice; have O7 := Lib.hid hown7; have B7 : Hid (Below w6.heap.size w6 w7) := Lib.hid (BZ.out.grown hgrow7 BZ.out.size (fun k hk => by simp [Value.ownBlock] at hk; omega)); have hz7 := B7.out.size; clear hown7 hgrow7 hat7)
                      | (refine kI.step_app rfl (.tmp 165) (.tmp 169) rfl (v := .slice A7 n7 c7) (l := [] ++ (cids left).take pk) (m := (cids left).drop pe) (B := w6.heap.size) rfl O7.out rfl LR.out (fun e => by cases e) (HR.out.on B7.out) (by have := LT.out; have := LR.out; simp; omega) hz7 ?_; intro v8 w8 hown8 hgrow8 hat8; obtain ⟨A8, n8, c8, rfl, _, _, _, _, _⟩ := hown8.slice; have O8 : Hid (kI.Own w8 w6.heap.size (.slice A8 n8 c8) (cids (dropM left di))) := Lib.hid (by rw [← FO.out]; exact hown8); have B8 : Hid (Below w6.heap.size w6 w8) := Lib.hid (Below.grown (a := w6) B7.out hgrow8 hz7 (fun k hk => (O7.out.lt hk).1)); clear hown8 hgrow8 hat8)
                      | fail))
                    all_goals
                      have S8 := Lib.hid (S6.out.list KK.out B8.out O8.out)
                      have NQ4 : Hid ((dropM left di).length = n8) := Lib.hid (by have := (own_all (S8.out).own).1; rw [cids, List.length_map] at this; exact this)
                      have CN4 : Hid (Calls Tryz.prog 13 #[.pointer (some ⟨g, 0, none⟩)] w8 fun e w' => e = .returned (.int .i64 (n8 : Nat)) ∧ Sit Mp w3 y.l ids p g (.slice A8 n8 c8) (cids (dropM left di)) (dropM left di) w') := Lib.hid (by
                        have := sit_len KK.out P3.out.dc WX.out E3.out (by have := HN1.out; omega) ND.out S8.out
                        rw [NQ4.out] at this
                        exact this)
                      go_wp2_with fail
                      refine CN4.out.mono ?_
                      rintro e wt4 ⟨rfl, st4⟩
                      have ST4 := Lib.hid st4
                      clear st4 CN4
                      go_wp2_with fail
                      go_roundw
                      case rel => exact ⟨i + 1, A8, n8, c8, _, by omega, by go_num, rfl, ST4⟩
                      case measure => simp [intOf]; omega
          | false =>
            have CF : Hid (∀ wz, Below wr.heap.size wr wz → Calls Tryz.prog 11 #[.pointer (some ⟨g, 0, none⟩), .string tg, .string ky] wz fun e w' => e = .returned (.tuple #[.int .i64 (findL y.l tg ky (cids left)), .bool (findL y.l tg ky (cids left) != 0)]) ∧ Sit Mp w3 y.l ids p g (.slice A' n' c') (cids left) left w') := Lib.hid (fun wz hz => sit_find KK.out P3.out.dc WX.out E3.out (by have := HN1.out; omega) ND.out tg ky (by omega) (by omega) (HS.out.below KK.out hz))
            have LF : Hid (∀ wz, Sit Mp w3 y.l ids p g (.slice A' n' c') (cids left) left wz → Calls Tryz.prog 12 #[.pointer (some ⟨q, 0, none⟩), .slice A' n' c', .string tg, .string ky] wz fun e w' => e = .returned (.int .i64 (findL y.l tg ky (cids left))) ∧ Sit Mp w3 y.l ids p g (.slice A' n' c') (cids left) left w') := Lib.hid (fun wz hz => by
              obtain ⟨h1, _, _, _, h5⟩ := own_all hz.own
              refine (lfind_any (cids left) A' n' c' tg ky wz h5 h1 (by have := HS.out.st.2.2; rw [cids, List.length_map] at h1; omega) WY.out (P3.out.rf.below hz.out3)).mono ?_
              rintro e w' ⟨rfl, hb⟩
              exact ⟨rfl, hz.below KK.out hb⟩)
            generalize findL y.l tg ky (cids left) = fz at CF LF
            go_upto_region 39 with fail
            have D0 := GD.out wr (Below3.out wr (Below.refl _ _))
            obtain ⟨_, d1, d2, _⟩ := D0
            go_region_held3 (fun w' => w'.cell? ⟨b, o + i * 4 + 1, none⟩ = some (.string tg) ∧ w'.cell? ⟨b, o + i * 4 + 2, none⟩ = some (.string ky)) (first | go_keep | exact K1) ((first
              | (go_at_call 11; refine (CF.out _ (Below_drewN (Below.refl _ _) _)).mono ?_; rintro e w6 ⟨rfl, s6⟩; have S6 := Lib.hid s6; have K1 := And.intro (GD.out w6 s6.out3).2.1 (GD.out w6 s6.out3).2.2.1; clear s6)
              | fail))
            all_goals
              clear d1 d2
              obtain ⟨_, d1, d2, _⟩ := GD.out w6 S6.out.out3
              go_upto_region 40 with fail
              go_region_held3 (fun w' => w'.cell? ⟨b, o + i * 4 + 1, none⟩ = some (.string tg) ∧ w'.cell? ⟨b, o + i * 4 + 2, none⟩ = some (.string ky)) (first | go_keep | exact K2) ((first
                | (go_at_call 12; refine (LF.out _ (S6.out.below KK.out (Below_drewN (Below.refl _ _) _))).mono ?_; rintro e w7 ⟨rfl, s7⟩; have S7 := Lib.hid s7; have K2 := And.intro (GD.out w7 s7.out3).2.1 (GD.out w7 s7.out3).2.2.1; clear s7)
                | fail))
              all_goals
                have q1 : (fz != fz) = false := by simp
                have q2 : ((fz != 0) != (fz != 0)) = false := by simp
                have NQ1 : Hid ((left).length = n') := Lib.hid (by have := (own_all (S7.out).own).1; rw [cids, List.length_map] at this; exact this)
                have CN1 : Hid (Calls Tryz.prog 13 #[.pointer (some ⟨g, 0, none⟩)] w7 fun e w' => e = .returned (.int .i64 (n' : Nat)) ∧ Sit Mp w3 y.l ids p g (.slice A' n' c') (cids (left)) (left) w') := Lib.hid (by
                  have := sit_len KK.out P3.out.dc WX.out E3.out (by have := HN1.out; omega) ND.out S7.out
                  rw [NQ1.out] at this
                  exact this)
                go_wp2_with fail
                refine CN1.out.mono ?_
                rintro e wt1 ⟨rfl, st1⟩
                have ST1 := Lib.hid st1
                clear st1 CN1
                go_wp2_with fail
                go_roundw
                case rel => exact ⟨i + 1, A', n', c', _, by omega, by go_num, rfl, ST1⟩
                case measure => simp [intOf]; omega
        · go_wp2_with fail
          go_ret
          exact ⟨rfl, B3.out.trans (HS.out.out3.mono B3.out.size)⟩
end Go.Proofs.YtihjdmdafiifhaaGreat.P15
