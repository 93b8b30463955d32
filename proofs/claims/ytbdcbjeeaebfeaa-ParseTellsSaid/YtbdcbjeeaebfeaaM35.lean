/- What parse.readAttrs and parse.readText answer. No condition but those stated. -/
import Derived.Test.YtbdcbjeeaebfeaaM19
import Derived.Test.YtbdcbjeeaebfeaaM20
import Derived.Test.YtbdcbjeeaebfeaaM34
set_option linter.unusedVariables false
set_option linter.unusedSimpArgs false
namespace Go.Proofs.Ytbdcbjeeaebfeaa.P10
open Go.RowKit Kd P4 P5 P8 P9

theorem cut_at (s sep : ByteArray) (l m : List UInt8) (w : World) (h : Bd.ML w) (h1 : s.data.toList = l) (h2 : sep.data.toList = m) (hs : s.size < 4294967281) :
    Calls Try.prog 40 #[.string s, .string sep] w fun e w' => e = .returned (.tuple #[.string (bs (Lib.cut l m).1), .string (bs (Lib.cut l m).2.1), .bool (Lib.cut l m).2.2]) ∧ Below w.heap.size w w' := by
  subst h1; subst h2
  refine (Bd.cut_any s sep w hs h).mono ?_
  rintro e w' ⟨rfl, n, rfl⟩
  exact ⟨rfl, Below_drewN (Below.refl _ _) n⟩
theorem got_eq (l : List UInt8) : P2.getB (bs l) = bs (unesc l) := by unfold P2.getB unesc; rw [bs_data]; rfl
/-- attributes that are told -/
def Ra (w : World) (l : List P3.At) (e : Ending) (w' : World) : Prop := ∃ (A : Option Addr) (n c : Nat), e = .returned (.slice A n c) ∧ kA.Own w' w.heap.size (.slice A n c) l ∧ Below w.heap.size w w'
/-- the state of readAttrs' loop -/
def RRel (w : World) (s : ByteArray) (s0 s3 : Value) (wr : World) : Prop := ∃ (x : ByteArray) (A : Option Addr) (n c : Nat) (ats : List P3.At) (f' : Nat), s0 = .string x ∧ s3 = .slice A n c ∧ x.size < f' ∧ ats.length + x.size ≤ 10000 ∧
  Hid (attrsR s.data.toList = raF f' x.data.toList ats) ∧ Hid (kA.Own wr w.heap.size (.slice A n c) ats) ∧ Hid (Below w.heap.size w wr)
set_option maxRecDepth 100000 in
set_option maxHeartbeats 4000000 in
theorem ra_any (s : ByteArray) (w : World) (hs : s.size ≤ 10000) (hm : Bd.ML w) : Calls Try.prog 41 #[.string s] w (Ra w (attrsR s.data.toList)) := by
  have HM := Lib.hid hm
  have ST : Hid (RRel w s (.string s) (.slice none 0 0) w) := Lib.hid ⟨s, none, 0, 0, [], s.size + 1, rfl, rfl, by omega, by simpa using hs, Lib.hid (by rw [attrsR, size_len]), Lib.hid (Kind.Own.nil kA w _), Lib.hid (Below.refl _ _)⟩
  clear hm hs
  go_enter Try.func41, Try.ntmps41
  go_wp2_with fail
  go_loopw [0, 3] (fun s0 s3 wr => RRel w s s0 s3 wr) (fun s0 _ _ => match s0 with | .string x => x.size | _ => 0)
  case atStart => exact ST.out
  case round =>
    obtain ⟨x, A, n, c, ats, f', rfl, rfl, hx, hts, HR, HO, HB⟩ := hrel
    have hno := HO.out.slice
    have hnl : ats.length = n := by
      obtain ⟨_, _, _, hv, e1, _⟩ := hno
      injection hv with _ hv2 _
      rw [e1, ← hv2]
    clear hno
    by_cases h0 : 0 < x.size
    · obtain ⟨f2, rfl⟩ : ∃ g, f' = g + 1 := ⟨f' - 1, by omega⟩
      have hne : x.data.toList ≠ [] := fun e => by have := size_len x; rw [e] at this; simp at this; omega
      have hE2 : x.toList.isEmpty = false := P2.toList_cons h0
      have MW := Lib.hid (HM.out.on HB.out)
      have hxs : (x.extract 1 x.size).size = x.size - 1 := by rw [ByteArray.size_extract]; omega
      have GN : Hid (raF (f2 + 1) x.data.toList ats = raF f2 (Lib.cut (Lib.cut (x.data.toList.drop 1) [61, 34]).2.1 [34]).2.1 (ats ++ [⟨bs (Lib.cut (x.data.toList.drop 1) [61, 34]).1, bs (unesc (Lib.cut (Lib.cut (x.data.toList.drop 1) [61, 34]).2.1 [34]).1), false⟩])) := Lib.hid (by rw [raF, if_neg hne])
      have C1 : Hid (Calls Try.prog 40 #[.string (x.extract 1 x.size), .string ⟨#[61, 34]⟩] wr fun e w' => e = .returned (.tuple #[.string (bs (Lib.cut (x.data.toList.drop 1) [61, 34]).1), .string (bs (Lib.cut (x.data.toList.drop 1) [61, 34]).2.1), .bool (Lib.cut (x.data.toList.drop 1) [61, 34]).2.2]) ∧ Below wr.heap.size wr w') := Lib.hid (cut_at _ _ _ _ wr MW.out (ex_tail x 1) rfl (by omega))
      have hcl := cut_len (x.data.toList.drop 1) [61, 34]
      rw [List.length_drop, size_len] at hcl
      generalize Lib.cut (x.data.toList.drop 1) [61, 34] = p at GN C1 hcl
      obtain ⟨p1, p2, p3⟩ := p
      simp only at GN C1 hcl
      have hps : (bs p2).size = p2.length := bs_size p2
      have C2 : Hid (∀ w9, Below wr.heap.size wr w9 → Calls Try.prog 40 #[.string (bs p2), .string ⟨#[34]⟩] w9 fun e w' => e = .returned (.tuple #[.string (bs (Lib.cut p2 [34]).1), .string (bs (Lib.cut p2 [34]).2.1), .bool (Lib.cut p2 [34]).2.2]) ∧ Below w9.heap.size w9 w') := Lib.hid (fun w9 h => cut_at _ _ _ _ w9 (MW.out.on h) (bs_data p2) rfl (by omega))
      have hcl2 := cut_len p2 [34]
      generalize Lib.cut p2 [34] = q at GN C2 hcl2
      obtain ⟨q1, q2, q3⟩ := q
      simp only at GN C2 hcl2
      have hq1 : (bs q1).size = q1.length := bs_size q1
      have hq2 : (bs q2).size = q2.length := bs_size q2
      have GE := Lib.hid (got_eq q1)
      have HQ2 : Hid ((bs q2).data.toList = q2) := Lib.hid (bs_data q2)
      generalize unesc q1 = uq at GN GE
      generalize bs p1 = b1 at GN C1
      generalize bs p2 = b2 at C1 C2 hps
      generalize bs q1 = c1 at C2 GE hq1
      generalize bs q2 = c2 at C2 HQ2 hq2
      generalize bs uq = bu at GN GE
      have k1 : (1 : Int) ≤ (x.size : Int) := by omega
      clear hne
      go_wp2_with fail
      refine C1.out.mono ?_
      rintro e w1 ⟨rfl, m1⟩
      have B1 := Lib.hid m1
      clear m1 C1
      go_wp2_with fail
      refine (C2.out w1 B1.out).mono ?_
      rintro e w2 ⟨rfl, m2⟩
      have B2 : Hid (Below wr.heap.size wr w2) := Lib.hid (B1.out.trans (m2.mono B1.out.size))
      clear m2 C2 B1
      go_wp2_with fail
      refine (P2.get_any c1 w2 (by omega)).mono ?_
      rintro e w3 ⟨rfl, m3⟩
      rw [GE.out]
      generalize P2.getOk c1 = ok
      have B3 : Hid (Below wr.heap.size wr w3) := Lib.hid (B2.out.trans (m3.mono B2.out.size))
      clear m3 B2
      have O3 := Lib.hid (HO.out.below B3.out (Nat.le_refl _))
      have B4 := Lib.hid (HB.out.trans (B3.out.mono HB.out.size))
      have hb4 := B4.out.size
      go_wp2_with (at_builtin; refine kA.wp_app rfl _ _ rfl (v := .slice A n c) (l := ats) (m := [⟨b1, bu, false⟩]) (B := w.heap.size) rfl (O3.out.alloc _) rfl rfl (fun e => by cases e) (Kind.Holds.lit (heap_alloc_new _ _) rfl) (by simp; omega) (by simp; omega) ?_; intro v' w5 hown' hgrow hat)
      obtain ⟨A', n', c', rfl, e1, e2, e3, e4, e5⟩ := hown'.slice
      have b7 : But (fun b => (Value.slice A n c).ownBlock = some b) w3 w5 := (But.alloc (But.refl _ _) _).trans (But.of_grown (S := fun i => (Value.slice A n c).ownBlock = some i) hgrow (fun i hi _ => hi)) (fun _ _ h => h)
      have B5 : Hid (Below w.heap.size w w5) := Lib.hid (B4.out.trans (b7.to_below (fun i _ hi => (O3.out.lt hi).1) hb4))
      have REL : Hid (RRel w s (.string c2) (.slice A' n' c') w5) := Lib.hid ⟨c2, A', n', c', ats ++ [⟨b1, bu, false⟩], f2, rfl, rfl, by omega, by rw [List.length_append]; simp only [List.length_cons, List.length_nil]; omega, Lib.hid (by rw [HR.out, GN.out, HQ2.out]), Lib.hid hown', B5⟩
      have hlt : c2.size < x.size := by omega
      clear b7 hown' hgrow hat e1 e2 e3 e4 e5
      go_wp2_with fail
      go_roundw
      case rel => exact REL.out
      case measure => exact hlt
    · have hE : x.toList = [] := P2.toList_nil (by omega)
      have hE2 : x.toList.isEmpty = true := by rw [hE]; rfl
      have GN : Hid (raF f' x.data.toList ats = ats) := Lib.hid (by
        obtain ⟨f2, rfl⟩ : ∃ g, f' = g + 1 := ⟨f' - 1, by omega⟩
        rw [raF, if_pos (list_nil (by omega))])
      go_wp2_with fail
      go_ret
      refine ⟨A, n, c, rfl, ?_, HB.out⟩
      rw [HR.out, GN.out]
      exact HO.out
/-! ### A text -/
theorem tv_new (w : World) (o : Obj) (t : ByteArray) (Q : Nat → Prop) : TNew w Q (txtV t) := txtV_new w t Q
set_option maxRecDepth 100000 in
set_option maxHeartbeats 4000000 in
theorem rt_any (s : ByteArray) (w : World) (hs : s.size ≤ 10000) (hm : Bd.ML w) : Calls Try.prog 26 #[.string s] w (Ev w (rtF s.data.toList)) := by
  have C1 : Hid (∀ w9, Below w.heap.size w w9 → Calls Try.prog 40 #[.string s, .string ⟨#[60]⟩] w9 fun e w' => e = .returned (.tuple #[.string (bs (Lib.cut s.data.toList [60]).1), .string (bs (Lib.cut s.data.toList [60]).2.1), .bool (Lib.cut s.data.toList [60]).2.2]) ∧ Below w9.heap.size w9 w') := Lib.hid (fun w9 h => cut_at _ _ _ _ w9 (hm.on h) rfl rfl (by omega))
  have HT : Hid (rtF s.data.toList = (textT (unesc (Lib.cut s.data.toList [60]).1), s.data.toList.drop (Lib.cut s.data.toList [60]).1.length)) := Lib.hid rfl
  have hcl := cut_len s.data.toList [60]
  rw [size_len] at hcl
  generalize Lib.cut s.data.toList [60] = p at C1 HT hcl
  obtain ⟨p1, p2, p3⟩ := p
  simp only at C1 HT hcl
  have hp1 : (bs p1).size = p1.length := bs_size p1
  have GE := Lib.hid (got_eq p1)
  have HD : Hid (s.extract p1.length s.size = bs (s.data.toList.drop p1.length)) := Lib.hid (ex_bs s _)
  generalize bs p1 = b1 at C1 hp1 GE
  generalize bs p2 = b2 at C1
  obtain ⟨k, hk⟩ : ∃ k, p1.length = k := ⟨_, rfl⟩
  rw [hk] at hp1 HD HT hcl
  have Z : Hid (TB (w.alloc (.cells #[.string ⟨#[]⟩, .string ⟨#[]⟩, .string ⟨#[]⟩, .slice none 0 0, .slice none 0 0] 38)) w.heap.size zTV) := Lib.hid (TB.new w zTV)
  have BZ : Hid (Below w.heap.size w (w.alloc (.cells #[.string ⟨#[]⟩, .string ⟨#[]⟩, .string ⟨#[]⟩, .slice none 0 0, .slice none 0 0] 38))) := Lib.hid ((Below.refl _ _).alloc (Nat.le_refl _) _)
  clear hm hk
  go_enter Try.func26, Try.ntmps26
  go_upto_region 1 with fail
  generalize w.alloc (.cells #[.string ⟨#[]⟩, .string ⟨#[]⟩, .string ⟨#[]⟩, .slice none 0 0, .slice none 0 0] 38) = W0 at Z BZ ⊢
  go_wp2_with fail
  refine (C1.out W0 BZ.out).mono ?_
  rintro e w1 ⟨rfl, m1⟩
  have Z1 : Hid (TB w1 w.heap.size zTV) := Lib.hid (Z.out.below m1 Z.out.lt)
  have B1 : Hid (Below w.heap.size w w1) := Lib.hid (BZ.out.trans (m1.mono BZ.out.size))
  clear m1 C1 Z BZ
  go_wp2_with fail
  refine (P2.get_any b1 w1 (by omega)).mono ?_
  rintro e w2 ⟨rfl, m2⟩
  rw [GE.out]
  generalize P2.getOk b1 = ok
  have Z2 : Hid (TB w2 w.heap.size zTV) := Lib.hid (Z1.out.below m2 Z1.out.lt)
  have B2 : Hid (Below w.heap.size w w2) := Lib.hid (B1.out.trans (m2.mono B1.out.size))
  clear m2 Z1 B1
  have z0 := Z2.out.c0; have z1 := Z2.out.c1; have z2 := Z2.out.c2; have z3 := Z2.out.c3; have z4 := Z2.out.c4
  simp only [TV.tag, TV.txt, TV.key, TV.sa, TV.sk, zTV] at z0 z1 z2 z3 z4
  have zf := tb_frozen Z2.out
  have hzl : w.heap.size < w2.heap.size := Z2.out.lt
  have i0 : (0 : Int) ≤ (b1.size : Int) := by omega
  have i1 : (b1.size : Int) ≤ (s.size : Int) := by omega
  have HDB : Hid (s.extract b1.size s.size = bs (s.data.toList.drop k)) := Lib.hid (by rw [hp1]; exact HD.out)
  clear hp1 hcl
  go_upto_region 3 with fail
  go_region_held3 (fun _ => True) (trivial) (fail)
  go_wp2_with fail
  refine bodyPost_ret (v := .tuple #[.agg #[.string ⟨#[]⟩, .string (bs (unesc p1)), .string ⟨#[]⟩, .slice none 0 0, .slice none 0 0], .string (s.extract b1.size s.size)]) (by simp [results, Try.results26, go_sem, z0, z1, z2, z3, z4, hzl]) rfl ⟨txtV (bs (unesc p1)), by rw [HT.out]; exact ret_el HDB.out, by rw [HT.out, txtV_er], ?_, ?_⟩
  · exact txtV_new _ _ _
  · exact (el_endd Z2.out (txtV_new _ ⟨#[]⟩ _) B2.out).2
end Go.Proofs.Ytbdcbjeeaebfeaa.P10
