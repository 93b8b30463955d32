/- What setAttrs answers and leaves; whether one is inside another; a node that leaves. -/
import Derived.Test.YtopnadaedcpaaaaDom2
namespace Go.Proofs.Ytopnadaedcpaaaa.P5
open Go.RowKit Kd P4
variable {B p : Nat} {x : Dx}

/-- attributes that are handed in -/
structure ArgA (w : World) (A : Option Addr) (n c : Nat) (l : List P3.At) : Prop where
  len : l.length = n
  cap : n ≤ c
  nil : A = none → c = 0
  few : n ≤ 1000000
  wf : P3.Wf l
  holds : kA.Holds w w.heap.size A l
theorem ArgA.below {w w' : World} {A : Option Addr} {n c : Nat} {l : List P3.At} (h : ArgA w A n c l) (hb : Below w.heap.size w w') : ArgA w' A n c l := ⟨h.len, h.cap, h.nil, h.few, h.wf, h.holds.on hb⟩

theorem may_at (l : List P3.At) (A : Option Addr) (n c : Nat) {r : Bool} (w : World) (hr : P3.mayA l = r) (h : ArgA w A n c l) :
    Calls Try.prog 64 #[.slice A n c] w fun e w' => e = .returned (.bool r) ∧ Below w.heap.size w w' := by
  subst hr
  exact P3.may_any l A n c w h.len h.few h.cap h.wf (p3holds h.holds)
set_option maxHeartbeats 1000000 in
theorem setAttrs_any (i : Int) (A : Option Addr) (n c : Nat) (l : List P3.At) (w : World) (hl : ArgA w A n c l) (h : Dc w B p x) : Calls Try.prog 40 #[.pointer (some ⟨p, 0, none⟩), .int .i64 i, .slice A n c] w (Made w B p x (errV (attrsD x.d i l).1) (attrsD x.d i l).2) := by
  have H := Lib.hid h
  have HL := Lib.hid hl
  have c0 := h.c0
  clear hl
  cases hh : hasL x.l i with
  | false =>
    have HH := Lib.hid hh
    have HD : Hid (attrsD x.d i l = (2, x.d)) := Lib.hid (by unfold attrsD; rw [if_pos (show hasL x.d.l i = false from hh)])
    clear h hh
    go_enter Try.func40, Try.ntmps40
    go_wp2_with fail
    refine (getP_no i w (by rw [H.out.has_slot]; exact HH.out) H.out.ar).mono ?_
    rintro e w1 ⟨rfl, b1⟩
    have B1 := Lib.hid b1
    clear b1
    go_wp2_with fail
    go_ret
    rw [HD.out]
    exact Made.same H.out B1.out rfl rfl
  | true =>
    obtain ⟨k, hk, hy, hu⟩ := place_upd h hh
    have htag := (tag_at h hk hy).1
    obtain ⟨tg, htg⟩ : ∃ tg, x.rs[k].nd.tag = tg := ⟨_, rfl⟩
    rw [htg] at htag
    have HY := Lib.hid hy
    have HU := Lib.hid hu
    have HTG := Lib.hid htg
    obtain ⟨b, hb⟩ : ∃ b, x.rs[k].b = b := ⟨_, rfl⟩
    have HB := Lib.hid hb
    have hl : x.d.l = x.l := rfl
    cases he : tg.toList.isEmpty with
    | true =>
      have he1 : tg.toList = [] := by rw [← List.isEmpty_iff]; exact he
      have hq : tg.toList.isEmpty = true := he
      have HD : Hid (attrsD x.d i l = (3, x.d)) := Lib.hid (by unfold attrsD; rw [if_neg (by rw [hl, hh]; simp), if_pos (by rw [hl, htag]; exact he1)])
      clear h hh hy hu hb htag htg he hl he1
      go_enter Try.func40, Try.ntmps40
      go_wp2_with fail
      refine (getP_at i k (x := b) w (l := x.rs.map slotOf) (by simpa using hk) (by simp [slotOf, HY.out]) (by simp [slotOf, HB.out]) H.out.ar).mono ?_
      rintro e w1 ⟨rfl, b1⟩
      have B1 := Lib.hid b1
      have H1 := Lib.hid (H.out.below b1)
      have d2 : w1.cell? ⟨b, 2, none⟩ = some (.string tg) := by have := (H1.out.nd hk).c2; rwa [HB.out, HTG.out] at this
      clear b1
      go_wp2_with fail
      go_ret
      rw [HD.out]
      exact Made.same H.out B1.out rfl rfl
    | false =>
      have he1 : ¬ tg.toList = [] := by rw [← List.isEmpty_iff]; simp [he]
      have hq : tg.toList.isEmpty = false := he
      cases hm : P3.mayA l with
      | false =>
        have HD : Hid (attrsD x.d i l = (1, x.d)) := Lib.hid (by unfold attrsD; rw [if_neg (by rw [hl, hh]; simp), if_neg (by rw [hl, htag]; exact he1), if_pos hm])
        have HM := Lib.hid hm
        clear h hh hy hu hb htag htg he hl hm he1
        go_enter Try.func40, Try.ntmps40
        go_wp2_with fail
        refine (getP_at i k (x := b) w (l := x.rs.map slotOf) (by simpa using hk) (by simp [slotOf, HY.out]) (by simp [slotOf, HB.out]) H.out.ar).mono ?_
        rintro e w1 ⟨rfl, b1⟩
        have B1 := Lib.hid b1
        have H1 := Lib.hid (H.out.below b1)
        have d2 : w1.cell? ⟨b, 2, none⟩ = some (.string tg) := by have := (H1.out.nd hk).c2; rwa [HB.out, HTG.out] at this
        have HL1 := Lib.hid (HL.out.below b1)
        clear b1
        go_wp2_with fail
        refine (may_at l A n c w1 HM.out HL1.out).mono ?_
        rintro e w2 ⟨rfl, b2⟩
        have B2 := Lib.hid (B1.out.trans (b2.mono B1.out.size))
        clear b2
        go_wp2_with fail
        go_ret
        rw [HD.out]
        exact Made.same H.out B2.out rfl rfl
      | true =>
        have HD : Hid (attrsD x.d i l = (0, { x.d with l := upd x.d.l i (withAttrs l) })) := Lib.hid (by unfold attrsD; rw [if_neg (by rw [hl, hh]; simp), if_neg (by rw [hl, htag]; exact he1), if_neg (by simp [hm])])
        have HM := Lib.hid hm
        clear h hh hy hu hb htag htg he hl hm he1
        go_enter Try.func40, Try.ntmps40
        go_wp2_with fail
        refine (getP_at i k (x := b) w (l := x.rs.map slotOf) (by simpa using hk) (by simp [slotOf, HY.out]) (by simp [slotOf, HB.out]) H.out.ar).mono ?_
        rintro e w1 ⟨rfl, b1⟩
        have B1 := Lib.hid b1
        have H1 := Lib.hid (H.out.below b1)
        have d2 : w1.cell? ⟨b, 2, none⟩ = some (.string tg) := by have := (H1.out.nd hk).c2; rwa [HB.out, HTG.out] at this
        have HL1 := Lib.hid (HL.out.below b1)
        clear b1
        go_wp2_with fail
        refine (may_at l A n c w1 HM.out HL1.out).mono ?_
        rintro e w2 ⟨rfl, b2⟩
        have B2 := Lib.hid (B1.out.trans (b2.mono B1.out.size))
        have HL2 := Lib.hid (HL1.out.below b2)
        have H2 := Lib.hid (H1.out.below b2)
        clear b2 d2
        go_wp2_with fail
        refine (cloneAt_any l A n c w2 HL2.out.len HL2.out.few (fun e => by have := HL2.out.nil e; have := HL2.out.cap; omega) HL2.out.holds).mono ?_
        rintro e w3 ⟨A3, n3, c3, rfl, o3, b3⟩
        have B3 := Lib.hid (B2.out.trans (b3.mono B2.out.size))
        have H3 := Lib.hid (H2.out.below b3)
        have O3 := Lib.hid o3
        have d5 : w3.cell? ⟨b, 5, none⟩ = some x.rs[k].va.val := by have := (H3.out.nd hk).c5; rwa [HB.out] at this
        have g5 : w3.frozen? ⟨b, 5, none⟩ = false := by have := (H3.out.nd hk).frozen 5; rwa [HB.out] at this
        clear b3 o3
        go_wp2_with fail
        go_ret
        rw [HD.out]
        obtain ⟨⟨sA, sn, sc⟩, hs, ha⟩ := AOk.own O3.out
        simp only [Sv.val, Value.slice.injEq] at hs
        obtain ⟨rfl, rfl, rfl⟩ := hs
        have hd := H3.out.cell_ hk (r := ⟨x.rs[k].b, ⟨A3, n3, c3⟩, x.rs[k].vk, withAttrs l x.rs[k].nd⟩) rfl rfl rfl rfl ha (i := 5) (u := .slice A3 n3 c3) rfl
        rw [HB.out] at hd
        exact ⟨rfl, _, (Did.below_ H.out B3.out).trans hd, HU.out (withAttrs l) _ rfl⟩

/-! ### inside -/
open Classical in
noncomputable def depOf (P : Int → Int) (y : Int) : Nat := if h : ∃ k, Dep P y k then Classical.choose h else 0
theorem dep_uniq {P : Int → Int} {y : Int} {i j : Nat} (hi : Dep P y i) (hj : Dep P y j) : i = j := by
  rcases Nat.lt_trichotomy i j with h | h | h
  · exact absurd hi.1 (hj.2 i h)
  · exact h
  · exact absurd hj.1 (hi.2 j h)
theorem depOf_is {P : Int → Int} {y : Int} {k : Nat} (h : Dep P y k) : depOf P y = k := by
  have hx : ∃ k, Dep P y k := ⟨k, h⟩
  unfold depOf
  rw [dif_pos hx]
  exact dep_uniq (Classical.choose_spec hx) h
theorem depOf_lt {l : List Nd} (h : Tr (fun y => hasL l y = true) (parOf l) (kidsOf l)) {y : Int} (hy : y ≠ 0) : depOf (parOf l) (parOf l y) < depOf (parOf l) y := by
  obtain ⟨k, hk⟩ := h.dep y
  rw [depOf_is hk]
  cases k with
  | zero => exact absurd hk.1 hy
  | succ k =>
    have : Dep (parOf l) (parOf l y) k := ⟨hk.1, fun i hi => hk.2 (i + 1) (by omega)⟩
    rw [depOf_is this]
    omega
theorem inside_yes {l : List Nd} (h : Tr (fun y => hasL l y = true) (parOf l) (kidsOf l)) {a b : Int} {j : Nat} (ha : hasL l a = true) (hb : b ≠ 0) (hj : it (parOf l) j a = b) : inside l a b = true := by
  obtain ⟨k, hk⟩ := h.dep a
  have hkl := h.dep_le (L := idsOf l) (fun y hy => has_ids.1 hy) ha hk
  have hjk : j < k := by
    rcases Nat.lt_or_ge j k with hlt | hge
    · exact hlt
    · exact absurd (hj.symm.trans (h.it_ge hk.1 hge)) hb
  unfold inside aboveL
  rw [decide_eq_true_iff, ← hj]
  simp only [idsOf, List.length_map] at hkl
  exact h.it_up _ a k j ha hk hjk (by omega)
theorem inside_no {l : List Nd} (h : Tr (fun y => hasL l y = true) (parOf l) (kidsOf l)) {a b : Int} {j : Nat} (hj : it (parOf l) j a = 0) (hn : ∀ m, m < j → it (parOf l) m a ≠ b) : inside l a b = false := by
  unfold inside aboveL
  rw [decide_eq_false_iff_not]
  intro hm
  obtain ⟨m, hm1, hm2⟩ := up_it _ _ _ hm
  rcases Nat.lt_or_ge m j with hlt | hge
  · exact hn m hlt hm1
  · rw [h.it_ge hj hge] at hm1
    subst hm1
    exact h.z hm2
set_option maxHeartbeats 1000000 in
theorem inside_any (a b : Int) (w : World) (hwf : WF x.d) (ha : hasL x.l a = true) (hb : hasL x.l b = true) (h : Dc w B p x) : Calls Try.prog 59 #[.pointer (some ⟨p, 0, none⟩), .int .i64 a, .int .i64 b] w fun e w' => e = .returned (.bool (inside x.l a b)) ∧ Below w.heap.size w w' := by
  have H := Lib.hid h
  have HT : Hid (Tr (fun y => hasL x.l y = true) (parOf x.l) (kidsOf x.l)) := Lib.hid hwf.tr
  have HA := Lib.hid ha
  have hb0 : 1 ≤ b := (hwf.pos hb).1
  clear h hwf ha hb
  go_enter Try.func59, Try.ntmps59
  go_wp2_with fail
  go_loopw [1] (fun i wr => ∃ (cur : Int) (j : Nat), i = .int .i64 cur ∧ Hid (it (parOf x.l) j a = cur) ∧ Hid (∀ m, m < j → it (parOf x.l) m a ≠ b) ∧ Hid (Below w.heap.size w wr)) (fun i _ => depOf (parOf x.l) (intOf i))
  case atStart => exact ⟨a, 0, rfl, Lib.hid rfl, Lib.hid (fun m hm => absurd hm (by omega)), Lib.hid (Below.refl _ _)⟩
  case round =>
    obtain ⟨cur, j, rfl, HC, HN, HB⟩ := hrel
    by_cases h0 : cur = 0
    · subst h0
      have hq : ((0 : Int) == b) = false := beq_eq_false_iff_ne.2 (by omega)
      go_wp2_with fail
      go_ret
      exact ⟨ret_bool (inside_no HT.out HC.out HN.out).symm, HB.out⟩
    · have hq0 : (cur != 0) = true := by simpa using h0
      by_cases h1 : cur = b
      · have hq1 : (cur != b) = false := by simpa using h1
        have hq2 : (cur == b) = true := by simpa using h1
        have HI : Hid (inside x.l a b = true) := Lib.hid (inside_yes HT.out HA.out (by omega) (HC.out.trans h1))
        clear h1 h0
        go_wp2_with fail
        go_ret
        exact ⟨ret_bool HI.out.symm, HB.out⟩
      · have hq1 : (cur != b) = true := by simpa using h1
        have hhas : hasL x.l cur = true := by
          have hi := HC.out
          have := HT.out.h_it HA.out j (by rw [hi]; exact h0)
          rwa [hi] at this
        have H1 := Lib.hid (H.out.below HB.out)
        obtain ⟨k, hk, hy, _⟩ := H1.out.place hhas
        obtain ⟨nb, hnb⟩ : ∃ nb, x.rs[k].b = nb := ⟨_, rfl⟩
        have HY := Lib.hid hy
        have HNB := Lib.hid hnb
        have hz : w.heap.size ≤ wr.heap.size := HB.out.size
        have H0 := Lib.hid h0
        have HNE := Lib.hid h1
        clear hy hnb hhas h0 h1
        go_wp2_with fail
        refine (node_at cur _ hk HY.out HNB.out H1.out).mono ?_
        rintro e w2 ⟨rfl, b2⟩
        have B2 := Lib.hid (HB.out.trans (b2.mono HB.out.size))
        have d1 : w2.cell? ⟨nb, 1, none⟩ = some (.int .i64 (parOf x.l cur)) := by
          have h2 := H1.out.below b2
          have := (h2.nd hk).c1
          rw [HNB.out] at this
          rw [(tag_at h2 hk HY.out).2.1]
          exact this
        clear b2
        go_wp2_with fail
        go_roundw
        case rel =>
          refine ⟨_, j + 1, rfl, Lib.hid (by rw [it_succ, HC.out]), Lib.hid (fun m hm => ?_), B2⟩
          by_cases e : m = j
          · subst e; rw [HC.out]; exact HNE.out
          · exact HN.out m (by omega)
        case measure => exact depOf_lt HT.out H0.out
end Go.Proofs.Ytopnadaedcpaaaa.P5
