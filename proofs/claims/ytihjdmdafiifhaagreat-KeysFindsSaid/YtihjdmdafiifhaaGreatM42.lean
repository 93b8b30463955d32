/- The walk of KeysFinds, over the contracts of the program's keys. No condition but those stated. -/
import Derived.Deep.RegionHeld3
import Derived.Test.YtihjdmdafiifhaaGreatM34
import Derived.Test.YtihjdmdafiifhaaGreatM35
import Derived.Test.YtihjdmdafiifhaaGreatM38
set_option linter.unusedVariables false
set_option linter.unusedSimpArgs false
set_option linter.unusedVariables false
set_option linter.unusedSimpArgs false
namespace Go.Proofs.YtihjdmdafiifhaaGreat.P15
open Go.RowKit Kd P4 P5 P6

variable {Mp : World → Nat → MS → (Nat → Prop) → (Nat → Prop) → Prop}
def TwoS (Mp : World → Nat → MS → (Nat → Prop) → (Nat → Prop) → Prop) (B0 : Nat) (w : World) (B p : Nat) (x : Dx) (g1 g2 : Nat) (S1 S2 : MS) : Prop := ∃ R1 W1 R2 W2 : Nat → Prop, Two Mp B0 w B p x g1 g2 S1 S2 R1 W1 R2 W2
section
variable {w w' w3 w4 w5 : World} {B B0 p g1 g2 : Nat} {x x' : Dx} {S1 S2 : MS} {ids : List Int}
theorem TwoS.below (K : KeysK Mp) (h : TwoS Mp B0 w B p x g1 g2 S1 S2) (hb : Below w.heap.size w w') : TwoS Mp B0 w' B p x g1 g2 S1 S2 := by
  obtain ⟨R1, W1, R2, W2, h⟩ := h
  exact ⟨R1, W1, R2, W2, h.below K hb⟩
theorem TwoS.dc (h : TwoS Mp B0 w B p x g1 g2 S1 S2) : Dc w B p x ∧ WF x.d := by
  obtain ⟨R1, W1, R2, W2, h⟩ := h
  exact ⟨h.dc, h.wf⟩
theorem TwoS.did (K : KeysK Mp) (h : TwoS Mp B0 w B p x g1 g2 S1 S2) (hd : Did w B p x x' w') (hwf : WF x'.d) : TwoS Mp B0 w' B p x' g1 g2 S1 S2 ∧ Below B0 w w' := by
  obtain ⟨R1, W1, R2, W2, h⟩ := h
  obtain ⟨h1, h2⟩ := h.did K hd hwf
  exact ⟨⟨R1, W1, R2, W2, h1⟩, h2⟩
theorem two_new (K : KeysK Mp) {R1 W1 R2 W2 : Nat → Prop} (h1 : Mp w4 g1 S1 R1 W1) (h2 : Mp w5 g2 S2 R2 W2) (b4 : Below w3.heap.size w3 w4) (b5 : Below w4.heap.size w4 w5) (hw1 : ∀ k, W1 k → w3.heap.size ≤ k) (hr1 : ∀ k, R1 k → k < B0 ∨ w3.heap.size ≤ k)
    (hw2 : ∀ k, W2 k → w4.heap.size ≤ k) (hr2 : ∀ k, R2 k → k < B0 ∨ w4.heap.size ≤ k) (dc : Dc w3 B p x) (wf : WF x.d) (base : B0 ≤ B) (size : B0 ≤ w3.heap.size) : TwoS Mp B0 w5 B p x g1 g2 S1 S2 := by
  have s4 := b4.size
  have s5 := b5.size
  refine ⟨R1, W1, R2, W2, (dc.below b4).below b5, wf, K.below h1 b5, h2, fun k hk => ⟨fun e => ?_, fun e => ?_⟩, fun k hk => ⟨fun e => ?_, fun e => ?_⟩, fun k hk => ⟨fun e => ?_, fun e => ?_⟩, fun k hk => ⟨fun e => ?_, fun e => ?_⟩, fun k hk => ?_, fun k hk => ?_, base, by omega⟩
  · have := hw1 k hk; have := K.wr h1 hk; rcases hr2 k e with e | e <;> omega
  · have := hw2 k e; have := K.wr h1 hk; omega
  · have := hw2 k hk; have := K.rd h1 e; omega
  · have := hw2 k hk; have := K.wr h1 e; omega
  · have := dc.ge hk; have := dc.lt hk; rcases hr1 k e with e | e <;> omega
  · have := dc.lt hk; have := hw1 k e; omega
  · have := dc.ge hk; have := dc.lt hk; rcases hr2 k e with e | e <;> omega
  · have := dc.lt hk; have := hw2 k e; omega
  · have := hw1 k hk; omega
  · have := hw2 k hk; omega
theorem two_find (K : KeysK Mp) (tag key : ByteArray) (ht : tag.size ≤ 100000) (hk : key.size ≤ 100000) (hn : ids.length ≤ 1000) (hd : ids.Nodup) (hsm : x.n ≤ 1000000) (h : TwoS Mp B0 w B p x g1 g2 ⟨false, some p, ids, []⟩ S2) :
    Calls Tryz.prog 11 #[.pointer (some ⟨g1, 0, none⟩), .string tag, .string key] w fun e w' => e = .returned (.tuple #[.int .i64 (findL x.l tag key ids), .bool (findL x.l tag key ids != 0)]) ∧ TwoS Mp B0 w' B p x g1 g2 ⟨true, some p, ids, keyedL x.l ids⟩ S2 ∧ Below B0 w w' := by
  obtain ⟨R1, W1, R2, W2, h⟩ := h
  refine (K.find tag key x.l _ R1 W1 g1 w h.m1 hn hd (h.ask1 rfl hsm) ht hk).mono ?_
  rintro e w' ⟨rfl, ha⟩
  obtain ⟨⟨R1', W1', h'⟩, hb⟩ := h.op K ha
  refine ⟨?_, ⟨R1', W1', R2, W2, h'⟩, hb⟩
  show _ = Ending.returned (.tuple #[.int .i64 _, .bool _])
  have hin : ∀ c ∈ keyedL x.l ids, InC x.l c := fun c hc => by
    obtain ⟨_, z, h1, h2, h3, h4⟩ := keyed_mem hc
    refine ⟨fun e => ?_, z, h1, h2, h3, h4⟩
    have h0 := h.wf.no0
    rw [e] at h1
    rw [show x.d.l = x.l from rfl, find_has h1] at h0
    cases h0
  have he := find_eq tag key hin
  rw [findL_keyed] at he
  rw [show (asks ⟨false, some p, ids, []⟩ x.l).left = keyedL x.l ids from rfl, he]
theorem two_len1 (K : KeysK Mp) (hn : ids.length ≤ 1000) (hd : ids.Nodup) {left : List Ch} (h : TwoS Mp B0 w B p x g1 g2 ⟨true, some p, ids, left⟩ S2) :
    Calls Tryz.prog 13 #[.pointer (some ⟨g1, 0, none⟩)] w fun e w' => e = .returned (.int .i64 (left.length : Nat)) ∧ TwoS Mp B0 w' B p x g1 g2 ⟨true, some p, ids, left⟩ S2 ∧ Below B0 w w' := by
  obtain ⟨R1, W1, R2, W2, h⟩ := h
  refine (K.len x.l _ R1 W1 g1 w h.m1 hn hd (fun e => by cases e)).mono ?_
  rintro e w' ⟨rfl, ha⟩
  obtain ⟨⟨R1', W1', h'⟩, hb⟩ := h.op K ha
  exact ⟨rfl, ⟨R1', W1', R2, W2, h'⟩, hb⟩
theorem two_len2 (K : KeysK Mp) (hn : ids.length ≤ 1000) (hd : ids.Nodup) (hsm : x.n ≤ 1000000) (h : TwoS Mp B0 w B p x g1 g2 S1 ⟨false, some p, ids, []⟩) :
    Calls Tryz.prog 13 #[.pointer (some ⟨g2, 0, none⟩)] w fun e w' => e = .returned (.int .i64 ((keyedL x.l ids).length : Nat)) ∧ Below B0 w w' := by
  obtain ⟨R1, W1, R2, W2, h⟩ := h
  have h2 := h.swap
  refine (K.len x.l _ R2 W2 g2 w h2.m1 hn hd (h2.ask1 rfl hsm)).mono ?_
  rintro e w' ⟨rfl, ha⟩
  obtain ⟨_, hb⟩ := h2.op K ha
  exact ⟨rfl, hb⟩
end
/-- the first loop: no one twice so far -/
def NuRel (w2 : World) (ids : List Int) (n : Nat) (s10 : Value) (wr : World) : Prop := ∃ k : Nat, k ≤ n ∧ s10 = .int .i64 k ∧ Hid ((ids.take k).Nodup) ∧ Hid (Below w2.heap.size w2 wr)
def MtRel (w6 : World) (l : List Nd) (tag key : ByteArray) (ids : List Int) (n : Nat) (s18 s19 : Value) (wr : World) : Prop := ∃ (i : Nat) (met : Bool), i ≤ n ∧ s19 = .int .i64 i ∧ s18 = .bool met ∧ Hid (met = (ids.take i).any (hitI l tag key)) ∧ Hid (Below w6.heap.size w6 wr)
def GnRel (Mp : World → Nat → MS → (Nat → Prop) → (Nat → Prop) → Prop) (w : World) (B p g1 g2 : Nat) (S1 S2 : MS) (n : Nat) (s24 : Value) (wr : World) : Prop := ∃ (i : Nat) (x : Dx), i ≤ n ∧ s24 = .int .i64 i ∧ x.n ≤ 100000 ∧ Hid (TwoS Mp w.heap.size wr B p x g1 g2 S1 S2) ∧ Hid (Below w.heap.size w wr)
def CtRel (w9 : World) (l : List Nd) (ids : List Int) (n : Nat) (s25 s26 : Value) (wr : World) : Prop := ∃ i : Nat, i ≤ n ∧ s26 = .int .i64 i ∧ s25 = .int .i64 ((keyedL l (ids.take i)).length : Nat) ∧ Hid (Below w9.heap.size w9 wr)
set_option maxRecDepth 100000 in
set_option maxHeartbeats 16000000 in
theorem finds15_any (KC : KeysC) (ds : List RE) (ids : List Int) (tag key : ByteArray) (A : Option Addr) (m c : Nat) (A1 : Option Addr) (n1 c1 : Nat) (w : World) (hm : ds.length = m) (hmc : m ≤ c) (hcm : c ≤ maxLen) (hwf : ∀ d ∈ ds, DeedOk w d) (H : kE.Holds w w.heap.size A ds)
    (hn1 : ids.length = n1) (hc1 : n1 ≤ c1) (hm1 : c1 ≤ maxLen) (hz1 : A1 = none → c1 = 0) (H1 : kI.Holds w w.heap.size A1 ids) :
    Calls Tryz.prog 4 #[.slice A m c, .slice A1 n1 c1, .string tag, .string key] w fun e w' => e = .returned (.bool true) ∧ Below w.heap.size w w' := by
  have HU := Lib.hid (up15_any KC)
  have HK := Lib.hid KC
  have HH := Lib.hid H
  have HM := Lib.hid hm
  have HF := Lib.hid hwf
  have HH1 := Lib.hid H1
  have HN1 := Lib.hid hn1
  have HC1 : Hid (n1 ≤ c1 ∧ c1 ≤ maxLen ∧ (A1 = none → c1 = 0)) := Lib.hid ⟨hc1, hm1, hz1⟩
  have hmx : m ≤ maxLen := by omega
  clear H hm hwf H1 hn1 hc1 hm1 hz1 KC
  go_enter Tryz.func4, Tryz.ntmps4
  go_wp2_with fail
  refine (HU.out _).mono ?_
  rintro e w1 ⟨rfl, b1⟩
  have B1 := Lib.hid b1
  clear b1 HU
  go_wp2_with fail
  refine (fewM_any 40 (by omega) ds A m c _ HM.out hmx (HH.out.on B1.out) (fun d hd => (HF.out d hd).below B1.out)).mono ?_
  rintro e w2 ⟨f, rfl, hf, b2⟩
  have B2 := Lib.hid (B1.out.trans (b2.mono B1.out.size))
  clear b2
  rcases hf with rfl | ⟨rfl, hm40, h20⟩
  · go_wp2_with fail
    go_ret
    exact ⟨rfl, B2.out⟩
  by_cases h40 : 40 < n1
  · go_wp2_with fail
    go_ret
    exact ⟨rfl, B2.out⟩
  by_cases t100 : 100 < tag.size
  · go_wp2_with fail
    go_ret
    exact ⟨rfl, B2.out⟩
  by_cases k100 : 100 < key.size
  · go_wp2_with fail
    go_ret
    exact ⟨rfl, B2.out⟩
  rw [HM.out] at hm40
  have H20 := Lib.hid h20
  clear h20
  go_wp2_with fail
  go_loopw [10] (fun s10 wr => NuRel w2 ids n1 s10 wr) (fun s10 _ => n1 - (intOf s10).toNat)
  case atStart => exact ⟨0, by omega, rfl, Lib.hid (by simp), Lib.hid (Below.refl _ _)⟩
  case round =>
    obtain ⟨k, hk, rfl, HD, HB⟩ := hrel
    by_cases hkn : k < n1
    · have hkl : k < ids.length := by have := HN1.out; omega
      have BWR := Lib.hid (B2.out.trans (HB.out.mono B2.out.size))
      obtain ⟨b, o, rfl, hb, g0⟩ := cell_int (HH1.out.on BWR.out) hkl
      have GI : Hid (∀ wz, Below w.heap.size w wz → ∀ j (hj : j < ids.length), wz.cell? ⟨b, o + j, none⟩ = some (.int .i64 ids[j])) := Lib.hid (fun wz hz j hj => by
        obtain ⟨b', o', hA, _, g⟩ := cell_int (HH1.out.on hz) hj
        injection hA with hA
        injection hA with e1 e2
        subst e1; subst e2
        exact g)
      have NX : Hid ((∀ a (h : a < ids.length), a < k → ids[a] ≠ ids[k]) → (ids.take (k + 1)).Nodup) := Lib.hid (take_nodup hkl HD.out)
      obtain ⟨i, hi⟩ : ∃ i, ids[k] = i := ⟨_, rfl⟩
      have GK : Hid (∀ wz, Below w.heap.size w wz → wz.cell? ⟨b, o + k, none⟩ = some (.int .i64 i)) := Lib.hid (fun wz hz => by rw [← hi]; exact GI.out wz hz k hkl)
      rw [hi] at NX
      clear g0 hi hb BWR
      go_wp2_with fail
      obtain ⟨wo, rfl⟩ : ∃ wo : World, wo = wr := ⟨_, rfl⟩
      go_loopw [11] (fun s11 wi => DuRel wo ids k i s11 wi) (fun s11 _ => k - (intOf s11).toNat)
      case atStart => exact ⟨0, by omega, rfl, Lib.hid (fun a _ h => by omega), Lib.hid (Below.refl _ _)⟩
      case round =>
        obtain ⟨j, hj, rfl, HN, HBi⟩ := hrel
        have HBW := Lib.hid (HB.out.trans (HBi.out.mono HB.out.size))
        have BWR := Lib.hid (B2.out.trans (HBW.out.mono B2.out.size))
        by_cases hjk : j < k
        · have hjl : j < ids.length := by omega
          have hd : wr.cell? ⟨b, o + j, none⟩ = some (.int .i64 ids[j]) := GI.out wr BWR.out j hjl
          have hc : wr.cell? ⟨b, o + k, none⟩ = some (.int .i64 i) := GK.out wr BWR.out
          obtain ⟨be, hbe⟩ : ∃ be, (ids[j] == i) = be := ⟨_, rfl⟩
          have HJ : Hid (be = false → ∀ a (h : a < ids.length), a < j + 1 → ids[a] ≠ i) := Lib.hid (fun hf a ha hl => by
            by_cases e : a = j
            · subst e; rw [hf] at hbe; exact beq_eq_false_iff_ne.1 hbe
            · exact HN.out a ha (by omega))
          generalize ids[j] = ij at hd hbe
          go_wp2_with fail
          go_quiet (fail)
          have BQ := Lib.hid (Below_drewN HBi.out nq)
          have BQW := Lib.hid (Below_drewN BWR.out nq)
          clear hd hc
          generalize wr.drewN nq = wq at BQ BQW ⊢
          cases be with
          | true =>
            go_wp2_with fail
            go_ret
            exact ⟨rfl, BQW.out⟩
          | false =>
            have HJ2 := Lib.hid (HJ.out rfl)
            clear HJ
            go_wp2_with fail
            go_roundw
            case rel => exact ⟨j + 1, by omega, by go_num, HJ2, BQ⟩
            case measure => simp [intOf]; omega
        · obtain rfl : j = k := by omega
          have ND2 := Lib.hid (NX.out HN.out)
          go_wp2_with fail
          go_roundw
          case rel => exact ⟨j + 1, by omega, by go_num, ND2, HBW⟩
          case measure => simp [intOf]; omega
    · obtain rfl : k = n1 := by omega
      have ND : Hid (ids.Nodup) := Lib.hid (by have := HD.out; rwa [List.take_of_length_le (by have := HN1.out; omega)] at this)
      have BWR := Lib.hid (B2.out.trans (HB.out.mono B2.out.size))
      obtain ⟨Mp, K⟩ := HK.out
      have KK := Lib.hid K
      clear K HK HD
      go_wp2_with fail
      refine (grown_any 30 (by omega) (by omega) ds A m c wr HM.out (by omega) H20.out (fun d hd => (HF.out d hd).below BWR.out) (HH.out.on BWR.out)).mono ?_
      rintro e w3 ⟨p, q, x, y, rfl, hp, he, hwf, hn, b3⟩
      have B3 := Lib.hid (BWR.out.trans (b3.mono BWR.out.size))
      have D3 := Lib.hid hp.dc
      have WX := Lib.hid hwf
      have hwb : w.heap.size ≤ wr.heap.size := BWR.out.size
      clear hp he hwf b3 H20 HF HH HM hm40 hmx B2 HB B1
      obtain ⟨Bd, hBd⟩ : ∃ z, wr.heap.size = z := ⟨_, rfl⟩
      rw [hBd] at D3 hwb
      clear hBd BWR
      have R1A : Hid (∀ k o, A1 = some ⟨k, o, none⟩ ∧ ids ≠ [] → k < w.heap.size) := Lib.hid (fun k o h => by
        have hl : 0 < ids.length := List.length_pos_iff.2 h.2
        obtain ⟨b, o', hA, hb, _⟩ := cell_int HH1.out hl
        rw [h.1] at hA
        injection hA with hA
        injection hA with e1 e2
        subst e1
        exact hb)
      have N1 := Lib.hid (KK.out.new (some p) ids A1 k c1 w3 (HH1.out.on B3.out) HN1.out HC1.out.1 HC1.out.2.1 HC1.out.2.2 (by omega))
      go_wp2_with fail
      refine N1.out.mono ?_
      rintro e w4 ⟨g1, R1, W1, rfl, m1, b4, hw1, hr1⟩
      have B4 := Lib.hid (B3.out.trans (b4.mono B3.out.size))
      have N2 := Lib.hid (KK.out.new (some p) ids A1 k c1 w4 (HH1.out.on B4.out) HN1.out HC1.out.1 HC1.out.2.1 HC1.out.2.2 (by omega))
      have X4 := Lib.hid (And.intro m1 (And.intro b4 (And.intro hw1 hr1)))
      clear m1 b4 hw1 hr1 N1
      go_wp2_with fail
      refine N2.out.mono ?_
      rintro e w5 ⟨g2, R2, W2, rfl, m2, b5, hw2, hr2⟩
      have T5 : Hid (TwoS Mp w.heap.size w5 Bd p x g1 g2 ⟨false, some p, ids, []⟩ ⟨false, some p, ids, []⟩) := Lib.hid (two_new KK.out X4.out.1 m2 X4.out.2.1 b5 X4.out.2.2.1 (fun k hk => by
        rcases X4.out.2.2.2 k hk with ⟨o, h⟩ | h
        · exact .inl (R1A.out k o h)
        · exact .inr h) hw2 (fun k hk => by
        rcases hr2 k hk with ⟨o, h⟩ | h
        · exact .inl (R1A.out k o h)
        · exact .inr h) D3.out WX.out hwb B3.out.size)
      have B5 := Lib.hid (B4.out.trans (b5.mono B4.out.size))
      clear m2 b5 hw2 hr2 N2 X4 D3 R1A B3 B4
      have CF := Lib.hid (two_find KK.out tag key (by omega) (by omega) (by have := HN1.out; omega) ND.out (by omega) T5.out)
      obtain ⟨fz, hfz⟩ : ∃ fz, findL x.l tag key ids = fz := ⟨_, rfl⟩
      have FZH := Lib.hid hfz
      rw [hfz] at CF
      clear hfz T5
      go_wp2_with fail
      refine CF.out.mono ?_
      rintro e w6 ⟨rfl, t6, b6⟩
      have T6 := Lib.hid t6
      have B6 := Lib.hid (B5.out.trans b6)
      clear t6 b6 CF B5
      go_wp2_with fail
      go_loopw [18, 19] (fun s18 s19 wr => MtRel w6 x.l tag key ids k s18 s19 wr) (fun _ s19 _ => k - (intOf s19).toNat)
      case atStart => exact ⟨0, false, by omega, rfl, rfl, Lib.hid (by simp), Lib.hid (Below.refl _ _)⟩
      case round =>
        obtain ⟨i, met, hi, rfl, rfl, HMET, HB⟩ := hrel
        have BWR := Lib.hid (B6.out.trans (HB.out.mono B6.out.size))
        have TR := Lib.hid (T6.out.below KK.out HB.out)
        by_cases hin : i < k
        · have hil : i < ids.length := by have := HN1.out; omega
          obtain ⟨b, o, rfl, hb, g0⟩ := cell_int (HH1.out.on BWR.out) hil
          have AT := Lib.hid (any_take (l := x.l) (tag := tag) (key := key) hil)
          have FH : Hid ((ids.take i).any (hitI x.l tag key) = false → hitI x.l tag key ids[i] = true → findL x.l tag key ids = ids[i]) := Lib.hid (first_hit hil)
          have MEM : Hid (ids[i] ∈ ids) := Lib.hid (List.getElem_mem hil)
          obtain ⟨ii, hii⟩ : ∃ ii, ids[i] = ii := ⟨_, rfl⟩
          have GK : Hid (∀ wz, Below w.heap.size w wz → wz.cell? ⟨b, o + i, none⟩ = some (.int .i64 ii)) := Lib.hid (fun wz hz => by
            obtain ⟨b', o', hA, _, g⟩ := cell_int (HH1.out.on hz) hil
            injection hA with hA
            injection hA with e1 e2
            subst e1; subst e2
            rw [← hii]
            exact g)
          rw [hii] at AT FH MEM
          clear g0 hii hb
          have hc : wr.cell? ⟨b, o + i, none⟩ = some (.int .i64 ii) := GK.out wr BWR.out
          have ND := Lib.hid (node_c (w := wr) ii TR.out.dc.2 TR.out.dc.1)
          go_wp2_with fail
          refine ND.out.mono ?_
          rintro e w7 ⟨nd, Aa, na, ca, Ak, nk, ck, rfl, hnd, b7⟩
          have HIT := Lib.hid (hit_was (tag := tag) (key := key) hnd)
          have BA := Lib.hid (HB.out.trans (b7.mono HB.out.size))
          generalize hasL x.l ii = was at HIT
          have BN : Hid (Below w6.heap.size w6 (w7.alloc (.cells #[.int .i64 nd.id, .int .i64 nd.par, .string nd.tag, .string nd.txt, .string nd.key, .slice Aa na ca, .slice Ak nk ck, .int .i64 nd.note] 34))) := Lib.hid (BA.out.alloc BA.out.size _)
          have N7 : Hid (NdB (w7.alloc (.cells #[.int .i64 nd.id, .int .i64 nd.par, .string nd.tag, .string nd.txt, .string nd.key, .slice Aa na ca, .slice Ak nk ck, .int .i64 nd.note] 34)) w7.heap.size nd Aa na ca Ak nk ck) := Lib.hid (NdB.new w7 nd Aa na ca Ak nk ck)
          clear hnd b7 hc ND TR HB
          go_upto_region 25 with fail
          generalize w7.alloc (.cells #[.int .i64 nd.id, .int .i64 nd.par, .string nd.tag, .string nd.txt, .string nd.key, .slice Aa na ca, .slice Ak nk ck, .int .i64 nd.note] 34) = W7 at BN N7 ⊢
          have BR := BN
          have hc : W7.cell? ⟨b, o + i, none⟩ = some (.int .i64 ii) := GK.out W7 (B6.out.trans (BN.out.mono B6.out.size))
          have a2 := N7.out.c2
          have a4 := N7.out.c4
          clear BA BN
          cases was with
          | false =>
            have HM : Hid (hitI x.l tag key ii = false) := Lib.hid HIT.out
            cases met with
            | true =>
              have MT : Hid (true = (ids.take (i + 1)).any (hitI x.l tag key)) := Lib.hid (by rw [AT.out, HM.out, ← HMET.out]; rfl)
              go_wp2_with fail
              go_roundw
              case rel => exact ⟨i + 1, true, by omega, by go_num, rfl, MT, BR⟩
              case measure => simp [intOf]; omega
            | false =>
              have MT : Hid (false = (ids.take (i + 1)).any (hitI x.l tag key)) := Lib.hid (by rw [AT.out, HM.out, ← HMET.out]; rfl)
              go_wp2_with fail
              go_roundw
              case rel => exact ⟨i + 1, false, by omega, by go_num, rfl, MT, BR⟩
              case measure => simp [intOf]; omega
          | true =>
            cases bt : nd.tag.toList.isEmpty with
            | true =>
              have HM : Hid (hitI x.l tag key ii = false) := Lib.hid (by rw [HIT.out, hit_alt]; simp [bt])
              cases met with
              | true =>
                have MT : Hid (true = (ids.take (i + 1)).any (hitI x.l tag key)) := Lib.hid (by rw [AT.out, HM.out, ← HMET.out]; rfl)
                go_wp2_with fail
                go_roundw
                case rel => exact ⟨i + 1, true, by omega, by go_num, rfl, MT, BR⟩
                case measure => simp [intOf]; omega
              | false =>
                have MT : Hid (false = (ids.take (i + 1)).any (hitI x.l tag key)) := Lib.hid (by rw [AT.out, HM.out, ← HMET.out]; rfl)
                go_wp2_with fail
                go_roundw
                case rel => exact ⟨i + 1, false, by omega, by go_num, rfl, MT, BR⟩
                case measure => simp [intOf]; omega
            | false =>
              cases bk : key.toList.isEmpty with
              | true =>
                have HM : Hid (hitI x.l tag key ii = false) := Lib.hid (by rw [HIT.out, hit_alt]; simp [bk])
                cases met with
                | true =>
                  have MT : Hid (true = (ids.take (i + 1)).any (hitI x.l tag key)) := Lib.hid (by rw [AT.out, HM.out, ← HMET.out]; rfl)
                  go_wp2_with fail
                  go_roundw
                  case rel => exact ⟨i + 1, true, by omega, by go_num, rfl, MT, BR⟩
                  case measure => simp [intOf]; omega
                | false =>
                  have MT : Hid (false = (ids.take (i + 1)).any (hitI x.l tag key)) := Lib.hid (by rw [AT.out, HM.out, ← HMET.out]; rfl)
                  go_wp2_with fail
                  go_roundw
                  case rel => exact ⟨i + 1, false, by omega, by go_num, rfl, MT, BR⟩
                  case measure => simp [intOf]; omega
              | false =>
                cases et : (nd.tag.toList == tag.toList) with
                | false =>
                  have HM : Hid (hitI x.l tag key ii = false) := Lib.hid (by rw [HIT.out, hit_alt]; simp [et])
                  cases met with
                  | true =>
                    have MT : Hid (true = (ids.take (i + 1)).any (hitI x.l tag key)) := Lib.hid (by rw [AT.out, HM.out, ← HMET.out]; rfl)
                    go_wp2_with fail
                    go_roundw
                    case rel => exact ⟨i + 1, true, by omega, by go_num, rfl, MT, BR⟩
                    case measure => simp [intOf]; omega
                  | false =>
                    have MT : Hid (false = (ids.take (i + 1)).any (hitI x.l tag key)) := Lib.hid (by rw [AT.out, HM.out, ← HMET.out]; rfl)
                    go_wp2_with fail
                    go_roundw
                    case rel => exact ⟨i + 1, false, by omega, by go_num, rfl, MT, BR⟩
                    case measure => simp [intOf]; omega
                | true =>
                  cases ek : (nd.key.toList == key.toList) with
                  | false =>
                    have HM : Hid (hitI x.l tag key ii = false) := Lib.hid (by rw [HIT.out, hit_alt]; simp [ek])
                    cases met with
                    | true =>
                      have MT : Hid (true = (ids.take (i + 1)).any (hitI x.l tag key)) := Lib.hid (by rw [AT.out, HM.out, ← HMET.out]; rfl)
                      go_wp2_with fail
                      go_roundw
                      case rel => exact ⟨i + 1, true, by omega, by go_num, rfl, MT, BR⟩
                      case measure => simp [intOf]; omega
                    | false =>
                      have MT : Hid (false = (ids.take (i + 1)).any (hitI x.l tag key)) := Lib.hid (by rw [AT.out, HM.out, ← HMET.out]; rfl)
                      go_wp2_with fail
                      go_roundw
                      case rel => exact ⟨i + 1, false, by omega, by go_num, rfl, MT, BR⟩
                      case measure => simp [intOf]; omega
                  | true =>
                    have HM : Hid (hitI x.l tag key ii = true) := Lib.hid (by rw [HIT.out, hit_alt, bt, bk, et, ek]; rfl)
                    cases met with
                    | true =>
                      have MT : Hid (true = (ids.take (i + 1)).any (hitI x.l tag key)) := Lib.hid (by rw [AT.out, HM.out, ← HMET.out]; rfl)
                      go_wp2_with fail
                      go_roundw
                      case rel => exact ⟨i + 1, true, by omega, by go_num, rfl, MT, BR⟩
                      case measure => simp [intOf]; omega
                    | false =>
                      have MT : Hid (true = (ids.take (i + 1)).any (hitI x.l tag key)) := Lib.hid (by rw [AT.out, HM.out, ← HMET.out]; rfl)
                      have FZ : fz = ii := by rw [← FZH.out]; exact FH.out HMET.out.symm HM.out
                      have q1 : (fz != ii) = false := by rw [FZ]; simp
                      have q2 : (fz != 0) = true := by
                        rw [← FZH.out, any_find (l := x.l) T6.out.dc.2.no0, List.any_eq_true]
                        exact ⟨ii, MEM.out, HM.out⟩
                      clear FZ
                      go_wp2_with fail
                      go_roundw
                      case rel => exact ⟨i + 1, true, by omega, by go_num, rfl, MT, BR⟩
                      case measure => simp [intOf]; omega
        · obtain rfl : i = k := by omega
          have MZ : Hid (met = (fz != 0)) := Lib.hid (by
            rw [HMET.out, List.take_of_length_le (by have := HN1.out; omega), ← any_find (l := x.l) T6.out.dc.2.no0, FZH.out])
          have CL1 := Lib.hid (two_len1 KK.out (by have := HN1.out; omega) ND.out TR.out)
          have HBL : Hid ((keyedL x.l ids).length ≤ 40) := Lib.hid (by have := keyed_len x.l ids; have := HN1.out; omega)
          generalize keyedL x.l ids = lf at CL1 HBL
          obtain ⟨bz, hbz⟩ : ∃ bz, (fz != 0) = bz := ⟨_, rfl⟩
          obtain rfl : met = bz := by rw [MZ.out, hbz]
          cases met with
          | true =>
            go_wp2_with fail
            refine CL1.out.mono ?_
            rintro e w8 ⟨rfl, t8, b8⟩
            have T8 := Lib.hid t8
            have B8 := Lib.hid (BWR.out.trans b8)
            clear t8 b8 CL1 HMET HB TR T6 MZ hbz BWR
            go_wp2_with fail
            go_loopw [24] (fun s24 wr => GnRel Mp w Bd p g1 g2 ⟨true, some p, ids, lf⟩ ⟨false, some p, ids, []⟩ i s24 wr) (fun s24 _ => i - (intOf s24).toNat)
            case atStart => exact ⟨0, x, by omega, rfl, hn, T8, B8⟩
            case round =>
              obtain ⟨j, x2, hj, rfl, hn2, HT, HB2⟩ := hrel
              by_cases hjn : j < i
              · have hjl : j < ids.length := by have := HN1.out; omega
                obtain ⟨b, o, rfl, hb, g0⟩ := cell_int (HH1.out.on HB2.out) hjl
                generalize ids[j] = ij at g0
                have AP : Hid (Calls Tryz.prog 15 #[.pointer (some ⟨p, 0, none⟩), .agg #[.int .i64 3, .int .i64 ij, .int .i64 0, .int .i64 0, .string ⟨#[]⟩, .string ⟨#[]⟩, .string ⟨#[]⟩, .slice none 0 0]] wr fun e w' => ∃ (v : Value) (x3 : Dx), e = .returned v ∧ x3.n ≤ 100000 ∧ TwoS Mp w.heap.size w' Bd p x3 g1 g2 ⟨true, some p, ids, lf⟩ ⟨false, some p, ids, []⟩ ∧ Below w.heap.size wr w') := Lib.hid ((apply_any ⟨3, ij, 0, 0, ⟨#[]⟩, ⟨#[]⟩, ⟨#[]⟩, []⟩ none 0 0 wr HT.out.dc.2 hn2 ⟨argNil wr, size_nil, size_nil, size_nil⟩ HT.out.dc.1).mono (by
                  rintro e w' ⟨rfl, x3, hd, hx3⟩
                  have hw3 : WF x3.d := by rw [hx3]; exact wf_apply HT.out.dc.2 _
                  obtain ⟨h1, h2⟩ := HT.out.did KK.out hd hw3
                  have hn3 : x3.d.n = x2.d.n := by rw [hx3]; exact gone_n x2.d ij
                  have hn4 : x3.n = x2.n := hn3
                  exact ⟨_, x3, rfl, by omega, h1, h2⟩))
                go_wp2_with fail
                refine AP.out.mono ?_
                rintro e w9 ⟨v, x3, rfl, hn3, t9, b9⟩
                have T9 := Lib.hid t9
                have B9 := Lib.hid (HB2.out.trans b9)
                clear t9 b9 AP g0
                go_wp2_with fail
                go_roundw
                case rel => exact ⟨j + 1, x3, by omega, by go_num, hn3, T9, B9⟩
                case measure => simp [intOf]; omega
              · obtain rfl : j = i := by omega
                go_wp2_with fail
                obtain ⟨wo, rfl⟩ : ∃ wo : World, wo = wr := ⟨_, rfl⟩
                go_loopw [25, 26] (fun s25 s26 wi => CtRel wo x2.l ids j s25 s26 wi) (fun _ s26 _ => j - (intOf s26).toNat)
                case atStart => exact ⟨0, by omega, rfl, rfl, Lib.hid (Below.refl _ _)⟩
                case round =>
                  obtain ⟨a, ha, rfl, rfl, HBi⟩ := hrel
                  have BWA := Lib.hid (HB2.out.trans (HBi.out.mono HB2.out.size))
                  have TA := Lib.hid (HT.out.below KK.out HBi.out)
                  have LE : (keyedL x2.l (ids.take a)).length ≤ 40 := by have := keyed_len x2.l (ids.take a); rw [List.length_take] at this; omega
                  by_cases han : a < j
                  · have hal : a < ids.length := by have := HN1.out; omega
                    obtain ⟨b, o, rfl, hb, g0⟩ := cell_int (HH1.out.on BWA.out) hal
                    have LT := Lib.hid (len_take (l := x2.l) hal)
                    generalize ids[a] = ii at g0 LT
                    have ND5 := Lib.hid (node_c (w := wr) ii TA.out.dc.2 TA.out.dc.1)
                    generalize hcn : (keyedL x2.l (ids.take a)).length = cn at LE ⊢
                    have HCN := Lib.hid hcn
                    clear hcn
                    go_wp2_with fail
                    refine ND5.out.mono ?_
                    rintro e w7 ⟨nd, Aa, na, ca, Ak, nk, ck, rfl, hnd, b7⟩
                    have KW := Lib.hid (key_was hnd)
                    generalize hasL x2.l ii = was at KW
                    have BA := Lib.hid (HBi.out.trans (b7.mono HBi.out.size))
                    have BR : Hid (Below wo.heap.size wo (w7.alloc (.cells #[.int .i64 nd.id, .int .i64 nd.par, .string nd.tag, .string nd.txt, .string nd.key, .slice Aa na ca, .slice Ak nk ck, .int .i64 nd.note] 34))) := Lib.hid (BA.out.alloc BA.out.size _)
                    have N7 : Hid (NdB (w7.alloc (.cells #[.int .i64 nd.id, .int .i64 nd.par, .string nd.tag, .string nd.txt, .string nd.key, .slice Aa na ca, .slice Ak nk ck, .int .i64 nd.note] 34)) w7.heap.size nd Aa na ca Ak nk ck) := Lib.hid (NdB.new w7 nd Aa na ca Ak nk ck)
                    clear hnd b7 g0 ND5 BA
                    go_upto_region 41 with fail
                    generalize w7.alloc (.cells #[.int .i64 nd.id, .int .i64 nd.par, .string nd.tag, .string nd.txt, .string nd.key, .slice Aa na ca, .slice Ak nk ck, .int .i64 nd.note] 34) = W7 at BR N7 ⊢
                    have a2 := N7.out.c2
                    have a4 := N7.out.c4
                    cases was with
                    | false =>
                      have CN : Hid ((keyedL x2.l (ids.take (a + 1))).length = (keyedL x2.l (ids.take a)).length) := Lib.hid (by rw [LT.out, KW.out]; simp [keyN])
                      go_wp2_with fail
                      go_roundw
                      case rel => exact ⟨a + 1, by omega, by go_num, by first | (rw [CN.out, HCN.out]; done) | (rw [CN.out, HCN.out]; first | rfl | go_num | simp), BR⟩
                      case measure => simp [intOf]; omega
                    | true =>
                      cases bt : nd.tag.toList.isEmpty with
                      | true =>
                        have CN : Hid ((keyedL x2.l (ids.take (a + 1))).length = (keyedL x2.l (ids.take a)).length) := Lib.hid (by rw [LT.out, KW.out]; simp [keyN, bt])
                        go_wp2_with fail
                        go_roundw
                        case rel => exact ⟨a + 1, by omega, by go_num, by first | (rw [CN.out, HCN.out]; done) | (rw [CN.out, HCN.out]; first | rfl | go_num | simp), BR⟩
                        case measure => simp [intOf]; omega
                      | false =>
                        cases bk : nd.key.toList.isEmpty with
                        | true =>
                          have CN : Hid ((keyedL x2.l (ids.take (a + 1))).length = (keyedL x2.l (ids.take a)).length) := Lib.hid (by rw [LT.out, KW.out]; simp [keyN, bt, bk])
                          go_wp2_with fail
                          go_roundw
                          case rel => exact ⟨a + 1, by omega, by go_num, by first | (rw [CN.out, HCN.out]; done) | (rw [CN.out, HCN.out]; first | rfl | go_num | simp), BR⟩
                          case measure => simp [intOf]; omega
                        | false =>
                          have CN : Hid ((keyedL x2.l (ids.take (a + 1))).length = (keyedL x2.l (ids.take a)).length + 1) := Lib.hid (by rw [LT.out, KW.out]; simp [keyN, bt, bk])
                          go_wp2_with fail
                          go_roundw
                          case rel => exact ⟨a + 1, by omega, by go_num, by first | (rw [CN.out, HCN.out]; done) | (rw [CN.out, HCN.out]; first | rfl | go_num | simp), BR⟩
                          case measure => simp [intOf]; omega
                  · obtain rfl : a = j := by omega
                    have HE : Hid (keyedL x2.l (ids.take a) = keyedL x2.l ids) := Lib.hid (by rw [List.take_of_length_le (by have := HN1.out; omega)])
                    rw [HE.out] at LE ⊢
                    have CLA := Lib.hid (two_len1 KK.out (by have := HN1.out; omega) ND.out TA.out)
                    have CLB : Hid (∀ wz, TwoS Mp w.heap.size wz Bd p x2 g1 g2 ⟨true, some p, ids, lf⟩ ⟨false, some p, ids, []⟩ → Calls Tryz.prog 13 #[.pointer (some ⟨g2, 0, none⟩)] wz fun e w' => e = .returned (.int .i64 ((keyedL x2.l ids).length : Nat)) ∧ Below w.heap.size wz w') := Lib.hid (fun wz hz => two_len2 KK.out (by have := HN1.out; omega) ND.out (by omega) hz)
                    generalize (keyedL x2.l ids).length = cn at LE CLB ⊢
                    have HLE := HBL.out
                    generalize lf.length = ln at CLA HLE ⊢
                    go_wp2_with fail
                    refine CLA.out.mono ?_
                    rintro e wa ⟨rfl, ta, ba⟩
                    have TB := Lib.hid ta
                    have BB := Lib.hid (BWA.out.trans ba)
                    clear ta ba CLA
                    go_wp2_with fail
                    refine (CLB.out wa TB.out).mono ?_
                    rintro e wb ⟨rfl, bb⟩
                    have BC := Lib.hid (BB.out.trans bb)
                    clear bb CLB
                    go_wp2_with fail
                    go_ret
                    exact ⟨by simp, BC.out⟩
          | false =>
            go_wp2_with fail
            refine CL1.out.mono ?_
            rintro e w8 ⟨rfl, t8, b8⟩
            have T8 := Lib.hid t8
            have B8 := Lib.hid (BWR.out.trans b8)
            clear t8 b8 CL1 HMET HB TR T6 MZ hbz BWR
            go_wp2_with fail
            go_loopw [24] (fun s24 wr => GnRel Mp w Bd p g1 g2 ⟨true, some p, ids, lf⟩ ⟨false, some p, ids, []⟩ i s24 wr) (fun s24 _ => i - (intOf s24).toNat)
            case atStart => exact ⟨0, x, by omega, rfl, hn, T8, B8⟩
            case round =>
              obtain ⟨j, x2, hj, rfl, hn2, HT, HB2⟩ := hrel
              by_cases hjn : j < i
              · have hjl : j < ids.length := by have := HN1.out; omega
                obtain ⟨b, o, rfl, hb, g0⟩ := cell_int (HH1.out.on HB2.out) hjl
                generalize ids[j] = ij at g0
                have AP : Hid (Calls Tryz.prog 15 #[.pointer (some ⟨p, 0, none⟩), .agg #[.int .i64 3, .int .i64 ij, .int .i64 0, .int .i64 0, .string ⟨#[]⟩, .string ⟨#[]⟩, .string ⟨#[]⟩, .slice none 0 0]] wr fun e w' => ∃ (v : Value) (x3 : Dx), e = .returned v ∧ x3.n ≤ 100000 ∧ TwoS Mp w.heap.size w' Bd p x3 g1 g2 ⟨true, some p, ids, lf⟩ ⟨false, some p, ids, []⟩ ∧ Below w.heap.size wr w') := Lib.hid ((apply_any ⟨3, ij, 0, 0, ⟨#[]⟩, ⟨#[]⟩, ⟨#[]⟩, []⟩ none 0 0 wr HT.out.dc.2 hn2 ⟨argNil wr, size_nil, size_nil, size_nil⟩ HT.out.dc.1).mono (by
                  rintro e w' ⟨rfl, x3, hd, hx3⟩
                  have hw3 : WF x3.d := by rw [hx3]; exact wf_apply HT.out.dc.2 _
                  obtain ⟨h1, h2⟩ := HT.out.did KK.out hd hw3
                  have hn3 : x3.d.n = x2.d.n := by rw [hx3]; exact gone_n x2.d ij
                  have hn4 : x3.n = x2.n := hn3
                  exact ⟨_, x3, rfl, by omega, h1, h2⟩))
                go_wp2_with fail
                refine AP.out.mono ?_
                rintro e w9 ⟨v, x3, rfl, hn3, t9, b9⟩
                have T9 := Lib.hid t9
                have B9 := Lib.hid (HB2.out.trans b9)
                clear t9 b9 AP g0
                go_wp2_with fail
                go_roundw
                case rel => exact ⟨j + 1, x3, by omega, by go_num, hn3, T9, B9⟩
                case measure => simp [intOf]; omega
              · obtain rfl : j = i := by omega
                go_wp2_with fail
                obtain ⟨wo, rfl⟩ : ∃ wo : World, wo = wr := ⟨_, rfl⟩
                go_loopw [25, 26] (fun s25 s26 wi => CtRel wo x2.l ids j s25 s26 wi) (fun _ s26 _ => j - (intOf s26).toNat)
                case atStart => exact ⟨0, by omega, rfl, rfl, Lib.hid (Below.refl _ _)⟩
                case round =>
                  obtain ⟨a, ha, rfl, rfl, HBi⟩ := hrel
                  have BWA := Lib.hid (HB2.out.trans (HBi.out.mono HB2.out.size))
                  have TA := Lib.hid (HT.out.below KK.out HBi.out)
                  have LE : (keyedL x2.l (ids.take a)).length ≤ 40 := by have := keyed_len x2.l (ids.take a); rw [List.length_take] at this; omega
                  by_cases han : a < j
                  · have hal : a < ids.length := by have := HN1.out; omega
                    obtain ⟨b, o, rfl, hb, g0⟩ := cell_int (HH1.out.on BWA.out) hal
                    have LT := Lib.hid (len_take (l := x2.l) hal)
                    generalize ids[a] = ii at g0 LT
                    have ND5 := Lib.hid (node_c (w := wr) ii TA.out.dc.2 TA.out.dc.1)
                    generalize hcn : (keyedL x2.l (ids.take a)).length = cn at LE ⊢
                    have HCN := Lib.hid hcn
                    clear hcn
                    go_wp2_with fail
                    refine ND5.out.mono ?_
                    rintro e w7 ⟨nd, Aa, na, ca, Ak, nk, ck, rfl, hnd, b7⟩
                    have KW := Lib.hid (key_was hnd)
                    generalize hasL x2.l ii = was at KW
                    have BA := Lib.hid (HBi.out.trans (b7.mono HBi.out.size))
                    have BR : Hid (Below wo.heap.size wo (w7.alloc (.cells #[.int .i64 nd.id, .int .i64 nd.par, .string nd.tag, .string nd.txt, .string nd.key, .slice Aa na ca, .slice Ak nk ck, .int .i64 nd.note] 34))) := Lib.hid (BA.out.alloc BA.out.size _)
                    have N7 : Hid (NdB (w7.alloc (.cells #[.int .i64 nd.id, .int .i64 nd.par, .string nd.tag, .string nd.txt, .string nd.key, .slice Aa na ca, .slice Ak nk ck, .int .i64 nd.note] 34)) w7.heap.size nd Aa na ca Ak nk ck) := Lib.hid (NdB.new w7 nd Aa na ca Ak nk ck)
                    clear hnd b7 g0 ND5 BA
                    go_upto_region 41 with fail
                    generalize w7.alloc (.cells #[.int .i64 nd.id, .int .i64 nd.par, .string nd.tag, .string nd.txt, .string nd.key, .slice Aa na ca, .slice Ak nk ck, .int .i64 nd.note] 34) = W7 at BR N7 ⊢
                    have a2 := N7.out.c2
                    have a4 := N7.out.c4
                    cases was with
                    | false =>
                      have CN : Hid ((keyedL x2.l (ids.take (a + 1))).length = (keyedL x2.l (ids.take a)).length) := Lib.hid (by rw [LT.out, KW.out]; simp [keyN])
                      go_wp2_with fail
                      go_roundw
                      case rel => exact ⟨a + 1, by omega, by go_num, by first | (rw [CN.out, HCN.out]; done) | (rw [CN.out, HCN.out]; first | rfl | go_num | simp), BR⟩
                      case measure => simp [intOf]; omega
                    | true =>
                      cases bt : nd.tag.toList.isEmpty with
                      | true =>
                        have CN : Hid ((keyedL x2.l (ids.take (a + 1))).length = (keyedL x2.l (ids.take a)).length) := Lib.hid (by rw [LT.out, KW.out]; simp [keyN, bt])
                        go_wp2_with fail
                        go_roundw
                        case rel => exact ⟨a + 1, by omega, by go_num, by first | (rw [CN.out, HCN.out]; done) | (rw [CN.out, HCN.out]; first | rfl | go_num | simp), BR⟩
                        case measure => simp [intOf]; omega
                      | false =>
                        cases bk : nd.key.toList.isEmpty with
                        | true =>
                          have CN : Hid ((keyedL x2.l (ids.take (a + 1))).length = (keyedL x2.l (ids.take a)).length) := Lib.hid (by rw [LT.out, KW.out]; simp [keyN, bt, bk])
                          go_wp2_with fail
                          go_roundw
                          case rel => exact ⟨a + 1, by omega, by go_num, by first | (rw [CN.out, HCN.out]; done) | (rw [CN.out, HCN.out]; first | rfl | go_num | simp), BR⟩
                          case measure => simp [intOf]; omega
                        | false =>
                          have CN : Hid ((keyedL x2.l (ids.take (a + 1))).length = (keyedL x2.l (ids.take a)).length + 1) := Lib.hid (by rw [LT.out, KW.out]; simp [keyN, bt, bk])
                          go_wp2_with fail
                          go_roundw
                          case rel => exact ⟨a + 1, by omega, by go_num, by first | (rw [CN.out, HCN.out]; done) | (rw [CN.out, HCN.out]; first | rfl | go_num | simp), BR⟩
                          case measure => simp [intOf]; omega
                  · obtain rfl : a = j := by omega
                    have HE : Hid (keyedL x2.l (ids.take a) = keyedL x2.l ids) := Lib.hid (by rw [List.take_of_length_le (by have := HN1.out; omega)])
                    rw [HE.out] at LE ⊢
                    have CLA := Lib.hid (two_len1 KK.out (by have := HN1.out; omega) ND.out TA.out)
                    have CLB : Hid (∀ wz, TwoS Mp w.heap.size wz Bd p x2 g1 g2 ⟨true, some p, ids, lf⟩ ⟨false, some p, ids, []⟩ → Calls Tryz.prog 13 #[.pointer (some ⟨g2, 0, none⟩)] wz fun e w' => e = .returned (.int .i64 ((keyedL x2.l ids).length : Nat)) ∧ Below w.heap.size wz w') := Lib.hid (fun wz hz => two_len2 KK.out (by have := HN1.out; omega) ND.out (by omega) hz)
                    generalize (keyedL x2.l ids).length = cn at LE CLB ⊢
                    have HLE := HBL.out
                    generalize lf.length = ln at CLA HLE ⊢
                    go_wp2_with fail
                    refine CLA.out.mono ?_
                    rintro e wa ⟨rfl, ta, ba⟩
                    have TB := Lib.hid ta
                    have BB := Lib.hid (BWA.out.trans ba)
                    clear ta ba CLA
                    go_wp2_with fail
                    refine (CLB.out wa TB.out).mono ?_
                    rintro e wb ⟨rfl, bb⟩
                    have BC := Lib.hid (BB.out.trans bb)
                    clear bb CLB
                    go_wp2_with fail
                    go_ret
                    exact ⟨by simp, BC.out⟩
end Go.Proofs.YtihjdmdafiifhaaGreat.P15
