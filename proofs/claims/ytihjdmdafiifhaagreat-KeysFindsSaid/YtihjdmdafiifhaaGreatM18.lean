/- A node that goes, or the error; each change. -/
import Derived.Test.YtihjdmdafiifhaaGreatM6
import Derived.Test.YtihjdmdafiifhaaGreatM17
set_option linter.unusedVariables false
set_option linter.unusedSimpArgs false
set_option linter.unusedVariables false
set_option linter.unusedSimpArgs false
namespace Go.Proofs.YtihjdmdafiifhaaGreat.P5
open Go.RowKit Kd P4
variable {B p : Nat} {x : Dx}

theorem sub_zero {l : List Nd} (h : Tr (fun y => hasL l y = true) (parOf l) (kidsOf l)) (f : Nat) (c : Int) : (0 : Int) ∉ sub (kidsOf l) f c ∨ c = 0 := by
  by_cases e : c = 0
  · exact .inr e
  · refine .inl fun hm => e ?_
    obtain ⟨j, hj⟩ := h.sub_it f c 0 hm
    rw [h.it0] at hj
    exact hj.symm
theorem Made.pre {w w1 w' : World} {r : Value} {d : D} {e : Ending} (h : Dc w B p x) (hb : Below w.heap.size w w1) (k : Made w1 B p x r d e w') : Made w B p x r d e w' := by
  obtain ⟨he, x', hd, hx⟩ := k
  exact ⟨he, x', (Did.below_ h hb).trans hd, hx⟩
set_option maxHeartbeats 1000000 in
theorem remove_any (i : Int) (w : World) (hwf : WF x.d) (h : Dc w B p x) : Calls Tryz.prog 29 #[.pointer (some ⟨p, 0, none⟩), .int .i64 i] w (Made w B p x (errV (goneD x.d i).1) (goneD x.d i).2) := by
  have H := Lib.hid h
  cases hh : hasL x.l i with
  | false =>
    have HH := Lib.hid hh
    have HD : Hid (goneD x.d i = (2, x.d)) := Lib.hid (if_pos hh)
    clear h hwf hh
    go_enter Tryz.func29, Tryz.ntmps29
    go_wp2_with fail
    refine (has_at i w HH.out H.out).mono ?_
    rintro e w1 ⟨rfl, b1⟩
    have B1 := Lib.hid b1
    clear b1
    go_wp2_with fail
    go_ret
    rw [HD.out]
    exact Made.same H.out B1.out rfl rfl
  | true =>
    have HH := Lib.hid hh
    have c1 : ¬ hasL x.d.l i = false := by rw [show x.d.l = x.l from rfl, hh]; simp
    by_cases h1 : i = 1
    · have hq : (i == 1) = true := by simpa using h1
      have HD : Hid (goneD x.d i = (4, x.d)) := Lib.hid (by unfold goneD; rw [if_neg c1, if_pos h1])
      clear h hwf hh c1 h1
      go_enter Tryz.func29, Tryz.ntmps29
      go_wp2_with fail
      refine (has_at i w HH.out H.out).mono ?_
      rintro e w1 ⟨rfl, b1⟩
      have B1 := Lib.hid b1
      clear b1
      go_wp2_with fail
      go_ret
      rw [HD.out]
      exact Made.same H.out B1.out rfl rfl
    · have hq : (i == 1) = false := by simpa using h1
      have HD : Hid (goneD x.d i = (0, { x.d with l := goneL x.l i, foc := fo x.foc (below (leaveL x.l i) i) })) := Lib.hid (by unfold goneD; rw [if_neg c1, if_neg h1]; rfl)
      have HWF := Lib.hid hwf
      have hTr : Tr (fun y => hasL x.l y = true) (parOf x.l) (kidsOf x.l) := hwf.tr
      have hT1 := leave_tr (i := i) hTr
      have HT1 := Lib.hid hT1
      have hi0 : i ≠ 0 := hTr.ne0 hh
      have hi1 : hasL (leaveL x.l i) i = true := by rw [leave_has]; exact hh
      have hR : x.rs.length ≤ 200 := by have h1 := h.ar.len; have h2 := h.ar.room; rw [List.length_map] at h1; omega
      have hso : SubOk (leaveL x.l i) (kidsOf (leaveL x.l i)) ((leaveL x.l i).length + 1) i := by
        refine ⟨?_, hT1.sub_nodup _ _ hi1, fun c hc => ⟨hT1.sub_h _ _ _ hi1 hc, rfl⟩⟩
        have := hT1.hb_all (L := idsOf (leaveL x.l i)) (fun y hy => has_ids.1 hy) hi1
        simpa [idsOf] using this
      have HSO := Lib.hid hso
      have HZ := Lib.hid (sub_zero hT1)
      have HK0 : Hid (∀ y, (0 : Int) ∉ kidsOf (leaveL x.l i) y) := Lib.hid (fun y hm => hT1.z (hT1.kid _ _ hm).2.1)
      have HKL : Hid (∀ y, (kidsOf (leaveL x.l i) y).length ≤ 1000) := Lib.hid (fun y => by
        have := nodup_len (kidsOf (leaveL x.l i) y) (idsOf (leaveL x.l i)) (hT1.nod y) (fun c hc => has_ids.1 (hT1.kid y c hc).2.1)
        rw [leave_ids] at this
        have hxl : (idsOf x.l).length = x.rs.length := by simp [idsOf, Dx.l]
        omega)
      have HI0 := Lib.hid hi0
      clear h hwf hh c1 h1 hTr hT1 hi0 hi1 hso
      go_enter Tryz.func29, Tryz.ntmps29
      go_wp2_with fail
      refine (has_at i w HH.out H.out).mono ?_
      rintro e w1 ⟨rfl, b1⟩
      have B1 := Lib.hid b1
      have H1 := Lib.hid (H.out.below b1)
      clear b1
      go_wp2_with fail
      refine (leave_any i w1 HWF.out HH.out H1.out).mono ?_
      rintro e w2 ⟨rfl, rs1, d2, hl2, hs2⟩
      have D2 := Lib.hid ((Did.below_ H.out B1.out).trans d2)
      have L2 := Lib.hid hl2
      have hlen : rs1.length ≤ 1000 := by
        have := congrArg List.length hs2
        simp only [List.length_map] at this
        omega
      clear d2 hl2 hs2
      go_wp2_with fail
      refine (drop_any (kidsOf (leaveL x.l i)) HZ.out HK0.out HKL.out ((leaveL x.l i).length + 1) i (x := { x with rs := rs1 }) w2 HI0.out hlen (by show SubOk (rs1.map (·.nd)) _ _ _; rw [L2.out]; exact HSO.out) D2.out.dc).mono ?_
      rintro e w3 ⟨rfl, v3, vi3, d3⟩
      have D3 := Lib.hid d3
      clear d3
      go_wp2_with fail
      go_ret
      rw [HD.out]
      refine ⟨rfl, _, D2.out.trans D3.out, ?_⟩
      show D.mk ((outR _ rs1).map (·.nd)) x.n x.R _ = D.mk (goneL x.l i) x.n x.R _
      rw [outR_nd, L2.out]
      rfl

/-! ### Apply -/
structure ArgR (w : World) (A : Option Addr) (n c : Nat) (r : Rc) : Prop where
  at_ : ArgA w A n c r.attrs
  tag : r.tag.size ≤ maxLen
  txt : r.txt.size ≤ maxLen
  key : r.key.size ≤ maxLen
theorem ArgR.below {w w' : World} {A : Option Addr} {n c : Nat} {r : Rc} (h : ArgR w A n c r) (hb : Below w.heap.size w w') : ArgR w' A n c r := ⟨h.at_.below hb, h.tag, h.txt, h.key⟩
set_option maxHeartbeats 1000000 in
theorem apply_any (r : Rc) (A : Option Addr) (n c : Nat) (w : World) (hwf : WF x.d) (hn : x.n ≤ 100000) (ha : ArgR w A n c r) (h : Dc w B p x) : Calls Tryz.prog 15 #[.pointer (some ⟨p, 0, none⟩), .agg #[.int .i64 r.op, .int .i64 r.id, .int .i64 r.par, .int .i64 r.bef, .string r.tag, .string r.txt, .string r.key, .slice A n c]] w (Made w B p x (errV (applyD x.d r).1) (applyD x.d r).2) := by
  have H := Lib.hid h
  have HWF := Lib.hid hwf
  have B1 : Hid (Below w.heap.size w (w.alloc (.cells #[.int .i64 r.op, .int .i64 r.id, .int .i64 r.par, .int .i64 r.bef, .string r.tag, .string r.txt, .string r.key, .slice A n c] 54))) := Lib.hid ((Below.refl _ _).alloc (Nat.le_refl _) _)
  have H1 := Lib.hid (h.below B1.out)
  have HA := Lib.hid (ha.below B1.out)
  have hR : x.rs.length ≤ x.R := by have := h.ar.len; rwa [List.length_map] at this
  have s1 := Lib.hid ha.tag
  have s2 := Lib.hid ha.txt
  have s3 := Lib.hid ha.key
  clear h hwf ha
  by_cases e1 : r.op = 1
  · have q1 : (r.op == 1) = true := by simpa using e1
    have HD : Hid (applyD x.d r = makeD x.d r) := Lib.hid (by unfold applyD; simp [e1])
    clear e1
    go_enter Tryz.func15, Tryz.ntmps15
    go_wp2_with fail
    refine (create_any r A n c _ hn s1.out s2.out s3.out hR H1.out).mono ?_
    rintro e w2 hm
    obtain ⟨rfl, x2, d2, hx2⟩ := hm
    have D2 := Lib.hid ((Did.below_ H.out B1.out).trans d2)
    have X2 := Lib.hid hx2
    clear d2 hx2
    go_wp2_with fail
    go_ret
    rw [HD.out]
    exact ⟨rfl, x2, D2.out, X2.out⟩
  have q1 : (r.op == 1) = false := by simpa using e1
  by_cases e2 : r.op = 2
  · have q2 : (r.op == 2) = true := by simpa using e2
    have HD : Hid (applyD x.d r = putD x.d r.id r.par r.bef) := Lib.hid (by unfold applyD; simp [e1, e2])
    clear e2 e1
    go_enter Tryz.func15, Tryz.ntmps15
    go_wp2_with fail
    refine (put_any r.id r.par r.bef _ HWF.out H1.out).mono ?_
    rintro e w2 hm
    obtain ⟨rfl, x2, d2, hx2⟩ := hm
    have D2 := Lib.hid ((Did.below_ H.out B1.out).trans d2)
    have X2 := Lib.hid hx2
    clear d2 hx2
    go_wp2_with fail
    go_ret
    rw [HD.out]
    exact ⟨rfl, x2, D2.out, X2.out⟩
  have q2 : (r.op == 2) = false := by simpa using e2
  by_cases e3 : r.op = 3
  · have q3 : (r.op == 3) = true := by simpa using e3
    have HD : Hid (applyD x.d r = goneD x.d r.id) := Lib.hid (by unfold applyD; simp [e1, e2, e3])
    clear e3 e1 e2
    go_enter Tryz.func15, Tryz.ntmps15
    go_wp2_with fail
    refine (remove_any r.id _ HWF.out H1.out).mono ?_
    rintro e w2 hm
    obtain ⟨rfl, x2, d2, hx2⟩ := hm
    have D2 := Lib.hid ((Did.below_ H.out B1.out).trans d2)
    have X2 := Lib.hid hx2
    clear d2 hx2
    go_wp2_with fail
    go_ret
    rw [HD.out]
    exact ⟨rfl, x2, D2.out, X2.out⟩
  have q3 : (r.op == 3) = false := by simpa using e3
  by_cases e4 : r.op = 4
  · have q4 : (r.op == 4) = true := by simpa using e4
    have HD : Hid (applyD x.d r = attrsD x.d r.id r.attrs) := Lib.hid (by unfold applyD; simp [e1, e2, e3, e4])
    clear e4 e1 e2 e3
    go_enter Tryz.func15, Tryz.ntmps15
    go_wp2_with fail
    refine (setAttrs_any r.id A n c r.attrs _ HA.out.at_ H1.out).mono ?_
    rintro e w2 hm
    obtain ⟨rfl, x2, d2, hx2⟩ := hm
    have D2 := Lib.hid ((Did.below_ H.out B1.out).trans d2)
    have X2 := Lib.hid hx2
    clear d2 hx2
    go_wp2_with fail
    go_ret
    rw [HD.out]
    exact ⟨rfl, x2, D2.out, X2.out⟩
  have q4 : (r.op == 4) = false := by simpa using e4
  by_cases e5 : r.op = 5
  · have q5 : (r.op == 5) = true := by simpa using e5
    have HD : Hid (applyD x.d r = dataD x.d r.id r.txt) := Lib.hid (by unfold applyD; simp [e1, e2, e3, e4, e5])
    clear e5 e1 e2 e3 e4
    go_enter Tryz.func15, Tryz.ntmps15
    go_wp2_with fail
    refine (setText_any r.id r.txt _ s2.out H1.out).mono ?_
    rintro e w2 hm
    obtain ⟨rfl, x2, d2, hx2⟩ := hm
    have D2 := Lib.hid ((Did.below_ H.out B1.out).trans d2)
    have X2 := Lib.hid hx2
    clear d2 hx2
    go_wp2_with fail
    go_ret
    rw [HD.out]
    exact ⟨rfl, x2, D2.out, X2.out⟩
  have q5 : (r.op == 5) = false := by simpa using e5
  have HD : Hid (applyD x.d r = (1, x.d)) := Lib.hid (by unfold applyD; simp [e1, e2, e3, e4, e5])
  clear e1 e2 e3 e4 e5
  go_enter Tryz.func15, Tryz.ntmps15
  go_wp2_with fail
  go_ret
  rw [HD.out]
  exact Made.same H.out B1.out rfl rfl
end Go.Proofs.YtihjdmdafiifhaaGreat.P5

/- The law's Few of attributes: whether a list is short. -/
set_option linter.unusedVariables false
set_option linter.unusedSimpArgs false
namespace Go.Proofs.YtihjdmdafiifhaaGreat.P3
open Go.RowKit

theorem fewA_long {l : List At} (h : 20 < l.length) : fewA l = false := by unfold fewA; simp; omega
theorem fewA_bad {l : List At} {k : Nat} (hk : k < l.length) (h : shortA l[k] = false) : fewA l = false := by
  unfold fewA
  have : l.all shortA = false := by
    rw [List.all_eq_false]
    exact ⟨l[k], List.getElem_mem hk, by simp [h]⟩
  rw [this, Bool.and_false]
def ShortTo (l : List At) (k : Nat) : Prop := ∀ j (h : j < l.length), j < k → shortA l[j] = true
theorem ShortTo.zero (l : List At) : ShortTo l 0 := fun _ _ h => absurd h (by omega)
theorem ShortTo.next {l : List At} {k : Nat} (h : ShortTo l k) (hk : k < l.length) (hb : shortA l[k] = true) : ShortTo l (k + 1) := by
  intro j hj hlt
  by_cases e : j = k
  · subst e; exact hb
  · exact h j hj (by omega)
theorem ShortTo.all {l : List At} {k : Nat} (h : ShortTo l k) (hl : l.length ≤ k) (h20 : l.length ≤ 20) : fewA l = true := by
  unfold fewA
  have : l.all shortA = true := by
    rw [List.all_eq_true]
    intro x hx
    obtain ⟨j, hj, rfl⟩ := List.getElem_of_mem hx
    exact h j hj (by omega)
  rw [this, Bool.and_true]
  exact decide_eq_true h20
def fewN (l : List At) : Int := if fewA l then 1 else 0
theorem ret_few {l : List At} {b : Bool} {x : Int} (h : fewA l = b) (hx : x = if b then 1 else 0) : Ending.returned (.int .i64 x) = .returned (.int .i64 (fewN l)) := by
  unfold fewN; rw [h, hx]
theorem short_no {a : At} (h : 100 < a.nm.size ∨ 100 < a.vl.size) : shortA a = false := by
  unfold shortA; rcases h with h | h <;> simp <;> omega
theorem short_yes {a : At} (h : a.nm.size ≤ 100) (h2 : a.vl.size ≤ 100) : shortA a = true := by
  unfold shortA; simp [h, h2]

set_option maxHeartbeats 400000 in
theorem few_any (l : List At) (A : Option Addr) (n c : Nat) (w : World) (hn : l.length = n) (hl : n ≤ 9223372036854775807) (H : Holds w w.heap.size A l) :
    Calls Tryz.prog 17 #[.slice A n c] w fun e w' => e = .returned (.int .i64 (fewN l)) ∧ w = w' := by
  have HH := Lib.hid H
  have HN := Lib.hid hn
  clear H hn
  go_enter Tryz.func17, Tryz.ntmps17
  go_wp2_with fail
  go_loop [3] (fun i => ∃ k : Nat, k ≤ n ∧ k ≤ 20 ∧ i = .int .i64 k ∧ Hid (ShortTo l k)) (fun i => n - (intOf i).toNat)
  case atStart => exact ⟨0, by omega, by omega, rfl, Lib.hid (ShortTo.zero _)⟩
  case round =>
    obtain ⟨k, hk, hk20, rfl, HS⟩ := hrel
    by_cases hlt : k < n
    · by_cases h20 : k < 20
      · have hlt' : k < l.length := by have := HN.out; omega
        obtain ⟨b, o, rfl, hb, h0, h1, h2⟩ := HH.out k hlt'
        by_cases hs1 : 100 < l[k].nm.size
        · go_wp2_with fail
          go_ret
          exact ⟨ret_few (fewA_bad hlt' (short_no (.inl hs1))) rfl, rfl⟩
        · by_cases hs2 : 100 < l[k].vl.size
          · go_wp2_with fail
            go_ret
            exact ⟨ret_few (fewA_bad hlt' (short_no (.inr hs2))) rfl, rfl⟩
          · go_wp2_with fail
            go_round
            case rel => exact ⟨k + 1, by omega, by omega, by go_num, Lib.hid (HS.out.next hlt' (short_yes (by omega) (by omega)))⟩
            case measure => simp [intOf]; omega
      · obtain rfl : k = 20 := by omega
        by_cases hn20 : 20 < n
        · go_wp2_with fail
          go_ret
          exact ⟨ret_few (fewA_long (by have := HN.out; omega)) rfl, rfl⟩
        · exact absurd hlt hn20
    · obtain rfl : k = n := by omega
      go_wp2_with fail
      go_ret
      exact ⟨ret_few (HS.out.all (by have := HN.out; omega) (by have := HN.out; omega)) rfl, rfl⟩
end Go.Proofs.YtihjdmdafiifhaaGreat.P3

/- The deeds of layer 5's laws, as they lie in memory; Few, Rec. -/
set_option linter.unusedVariables false
set_option linter.unusedSimpArgs false
namespace Go.Proofs.YtihjdmdafiifhaaGreat.P5
open Go.RowKit Kd P4
variable {B p : Nat} {x : Dx}

/-- a deed that came in: its texts are no longer than texts may be, its attributes lie in memory -/
structure DeedOk (w : World) (r : RE) : Prop where
  what1 : -9223372036854775808 ≤ r.what
  what2 : r.what ≤ 9223372036854775807
  tag : r.tag.size ≤ maxLen
  txt : r.txt.size ≤ maxLen
  key : r.key.size ≤ maxLen
  at_ : ∃ l : List P3.At, l.length = r.va.n ∧ r.va.n ≤ r.va.c ∧ r.va.c ≤ maxLen ∧ (r.va.A = none → r.va.c = 0) ∧ kA.Holds w w.heap.size r.va.A l ∧ P3.Wf l
theorem DeedOk.below {w w' : World} {r : RE} (h : DeedOk w r) (hb : Below w.heap.size w w') : DeedOk w' r := by
  obtain ⟨l, h1, h2, h3, h4, h5, h6⟩ := h.at_
  exact ⟨h.what1, h.what2, h.tag, h.txt, h.key, l, h1, h2, h3, h4, h5.on hb, h6⟩
theorem cell_of_deeds {w : World} {B : Nat} {A : Option Addr} {l : List RE} (h : kE.Holds w B A l) {k : Nat} (hk : k < l.length) :
    ∃ b o, A = some ⟨b, o, none⟩ ∧ b < B ∧ w.cell? ⟨b, o + k * 12, none⟩ = some (.int .i64 l[k].what) ∧ w.cell? ⟨b, o + k * 12 + 1, none⟩ = some (.bool l[k].next) ∧
      w.cell? ⟨b, o + k * 12 + 2, none⟩ = some (.int .i64 l[k].op) ∧ w.cell? ⟨b, o + k * 12 + 3, none⟩ = some (.int .i64 l[k].rid) ∧ w.cell? ⟨b, o + k * 12 + 4, none⟩ = some (.int .i64 l[k].par) ∧ w.cell? ⟨b, o + k * 12 + 5, none⟩ = some (.int .i64 l[k].bef) ∧
      w.cell? ⟨b, o + k * 12 + 6, none⟩ = some (.string l[k].tag) ∧ w.cell? ⟨b, o + k * 12 + 7, none⟩ = some (.string l[k].txt) ∧ w.cell? ⟨b, o + k * 12 + 8, none⟩ = some (.string l[k].key) ∧ w.cell? ⟨b, o + k * 12 + 9, none⟩ = some (.slice l[k].va.A l[k].va.n l[k].va.c) ∧
      w.cell? ⟨b, o + k * 12 + 10, none⟩ = some (.int .i64 l[k].id) ∧ w.cell? ⟨b, o + k * 12 + 11, none⟩ = some (.int .i64 l[k].n) := by
  obtain ⟨b, o, rfl, hb, hc⟩ := h.at hk
  exact ⟨b, o, rfl, hb, hc 0 _ rfl, hc 1 _ rfl, hc 2 _ rfl, hc 3 _ rfl, hc 4 _ rfl, hc 5 _ rfl, hc 6 _ rfl, hc 7 _ rfl, hc 8 _ rfl, hc 9 _ rfl, hc 10 _ rfl, hc 11 _ rfl⟩

def Few5 (w : World) (l : List RE) (e : Ending) (w' : World) : Prop :=
  ∃ f : Int, e = .returned (.int .i64 f) ∧ (f = 0 ∨ f = 1 ∧ l.length ≤ 60 ∧ ∀ r ∈ l, r.va.n ≤ 20) ∧ Below w.heap.size w w'
theorem few5_no {w w' : World} {l : List RE} (hb : Below w.heap.size w w') : Few5 w l (.returned (.int .i64 0)) w' := ⟨0, rfl, .inl rfl, hb⟩
set_option maxHeartbeats 1000000 in
theorem few5_any (l : List RE) (A : Option Addr) (n c : Nat) (w : World) (hn : l.length = n) (hm : n ≤ maxLen) (H : kE.Holds w w.heap.size A l) (hd : ∀ r ∈ l, DeedOk w r) :
    Calls Tryz.prog 6 #[.slice A n c, .int .i64 60] w (Few5 w l) := by
  unfold maxLen at hm
  have HH := Lib.hid H
  have HN := Lib.hid hn
  have HD := Lib.hid hd
  clear H hn hd
  go_enter Tryz.func6, Tryz.ntmps6
  go_wp2_with fail
  go_loopw [5] (fun i wr => ∃ k : Nat, k ≤ n ∧ k ≤ 60 ∧ i = .int .i64 k ∧ Hid (∀ j (h : j < l.length), j < k → l[j].va.n ≤ 20) ∧ Hid (Below w.heap.size w wr)) (fun i _ => n - (intOf i).toNat)
  case atStart => exact ⟨0, by omega, by omega, rfl, Lib.hid (fun j _ h => by omega), Lib.hid (Below.refl _ _)⟩
  case round =>
    obtain ⟨k, hk, hk60, rfl, HS, HW⟩ := hrel
    by_cases hlt : k < n
    · by_cases h60 : k < 60
      · have hkl : k < l.length := by have := HN.out; omega
        obtain ⟨b, o, rfl, hb, g0, g1, g2, g3, g4, g5, g6, g7, g8, g9, g10, g11⟩ := cell_of_deeds (HH.out.on HW.out) hkl
        have hdk := (HD.out _ (List.getElem_mem hkl)).below HW.out
        obtain ⟨al, a1, a2, a3, a4, a5, a6⟩ := hdk.at_
        have hz := HW.out.size
        have HL : Hid (l[k].va.n ≤ 20 → ∀ j (h : j < l.length), j < k + 1 → l[j].va.n ≤ 20) := Lib.hid (fun h20 j hj hjk => by
          by_cases e : j = k
          · subst e; exact h20
          · exact HS.out j hj (by omega))
        generalize l[k] = d at g0 g1 g2 g3 g4 g5 g6 g7 g8 g9 g10 g11 hdk a1 a2 a3 a4 a5 HL
        obtain ⟨what, next, op, rid, par, bef, tag, txt, key, ⟨vA, vn, vc⟩, id, dn⟩ := d
        simp only at g0 g1 g2 g3 g4 g5 g6 g7 g8 g9 g10 g11 a1 a2 a3 a4 a5 HL
        have t1 := hdk.tag
        have t2 := hdk.txt
        have t3 := hdk.key
        simp only at t1 t2 t3
        unfold maxLen at a3 t1 t2 t3
        have A1 := Lib.hid a1
        have A5 := Lib.hid a5
        have BW : Hid (Below w.heap.size w (wr.alloc (.cells #[.int .i64 op, .int .i64 rid, .int .i64 par, .int .i64 bef, .string tag, .string txt, .string key, .slice vA vn vc] 54))) := Lib.hid (HW.out.alloc hz _)
        clear hdk a1 a4 a5 a6
        by_cases h1 : 100 < tag.size
        · go_wp2_with fail
          go_ret
          exact few5_no BW.out
        · by_cases h2 : 100 < txt.size
          · go_wp2_with fail
            go_ret
            exact few5_no BW.out
          · by_cases h3 : 100 < key.size
            · go_wp2_with fail
              go_ret
              exact few5_no BW.out
            · cases hf : P3.fewA al with
              | false =>
                have HF : Hid (P3.fewN al = 0) := Lib.hid (by unfold P3.fewN; rw [hf]; rfl)
                clear hf
                go_wp2_with fail
                refine (P3.few_any al vA vn vc _ A1.out (by omega) (p3holds (A5.out.on ((Below.refl _ _).alloc (Nat.le_refl _) _)))).mono ?_
                rintro e w' ⟨rfl, rfl⟩
                rw [HF.out]
                go_wp2_with fail
                go_ret
                exact few5_no BW.out
              | true =>
                have HF : Hid (P3.fewN al = 1) := Lib.hid (by unfold P3.fewN; rw [hf]; rfl)
                have h20 : vn ≤ 20 := by unfold P3.fewA at hf; simp at hf; have := A1.out; omega
                clear hf
                go_wp2_with fail
                refine (P3.few_any al vA vn vc _ A1.out (by omega) (p3holds (A5.out.on ((Below.refl _ _).alloc (Nat.le_refl _) _)))).mono ?_
                rintro e w' ⟨rfl, rfl⟩
                rw [HF.out]
                go_wp2_with fail
                go_roundw
                case rel => exact ⟨k + 1, by omega, by omega, by go_num, Lib.hid (HL.out h20), BW⟩
                case measure => simp [intOf]; omega
      · obtain rfl : k = 60 := by omega
        go_wp2_with fail
        go_ret
        exact few5_no HW.out
    · obtain rfl : k = n := by omega
      go_wp2_with fail
      go_ret
      refine ⟨1, rfl, .inr ⟨rfl, by rw [HN.out]; exact hk60, fun r hr => ?_⟩, HW.out⟩
      obtain ⟨j, hj, rfl⟩ := List.mem_iff_getElem.1 hr
      exact HS.out j hj (by have := HN.out; omega)

/-! ### Rec -/
/-- the change of a deed, of a document whose last identity is n -/
def recOf (r : RE) (n : Int) (l : List P3.At) : Rc := ⟨r.op, if r.next = true ∧ r.op = 1 then n + 1 else r.rid, r.par, r.bef, r.tag, r.txt, r.key, l⟩
def Recd (w : World) (r : RE) (n : Int) (e : Ending) (w' : World) : Prop :=
  e = .returned (.agg #[.int .i64 r.op, .int .i64 (if r.next = true ∧ r.op = 1 then n + 1 else r.rid), .int .i64 r.par, .int .i64 r.bef, .string r.tag, .string r.txt, .string r.key, .slice r.va.A r.va.n r.va.c]) ∧ Below w.heap.size w w'
set_option maxHeartbeats 1000000 in
theorem rec_any (r : RE) (w : World) (hn : x.n ≤ 100000) (h : Dc w B p x) : Calls Tryz.prog 19 #[.pointer (some ⟨p, 0, none⟩), .agg #[.int .i64 r.what, .bool r.next, .int .i64 r.op, .int .i64 r.rid, .int .i64 r.par, .int .i64 r.bef, .string r.tag, .string r.txt, .string r.key, .slice r.va.A r.va.n r.va.c, .int .i64 r.id, .int .i64 r.n]] w (Recd w r x.n) := by
  obtain ⟨what, next, op, rid, par, bef, tag, txt, key, ⟨vA, vn, vc⟩, id, dn⟩ := r
  simp only
  have H := Lib.hid h
  have B2 : Hid (Below w.heap.size w ((w.alloc (.cells #[.int .i64 what, .bool next, .int .i64 op, .int .i64 rid, .int .i64 par, .int .i64 bef, .string tag, .string txt, .string key, .slice vA vn vc, .int .i64 id, .int .i64 dn] 59)).alloc (.cells #[.int .i64 0, .int .i64 0, .int .i64 0, .int .i64 0, .string ⟨#[]⟩, .string ⟨#[]⟩, .string ⟨#[]⟩, .slice none 0 0] 54))) := Lib.hid (((Below.refl _ _).alloc (Nat.le_refl _) _).alloc (by simp) _)
  have H2 := Lib.hid (h.below B2.out)
  have hz : w.heap.size + 1 < w.heap.size + 1 + 1 := by omega
  clear h
  cases next with
  | false =>
    go_enter Tryz.func19, Tryz.ntmps19
    go_wp2_with fail
    refine bodyPost_ret (v := .agg #[.int .i64 op, .int .i64 rid, .int .i64 par, .int .i64 bef, .string tag, .string txt, .string key, .slice vA vn vc]) (by simp [results, Tryz.results19, go_sem]) rfl ⟨by simp, ?_⟩
    exact (by repeat (first | exact Below.refl _ _ | refine Below.drew ?_ | refine Below.alloc ?_ (by first | exact Nat.le_refl _ | (simp; done) | (simp; omega)) _ | refine Below.setCell ?_ (by first | exact Nat.le_refl _ | (simp; done) | (simp; omega)) _))
  | true =>
    by_cases ho : op = 1
    · have hq : (op == 1) = true := by simpa using ho
      have HO := Lib.hid ho
      clear ho
      go_enter Tryz.func19, Tryz.ntmps19
      go_wp2_with fail
      refine (next_any _ hn rfl H2.out).mono ?_
      rintro e w' ⟨rfl, rfl⟩
      go_wp2_with fail
      refine bodyPost_ret (v := .agg #[.int .i64 op, .int .i64 (x.n + 1), .int .i64 par, .int .i64 bef, .string tag, .string txt, .string key, .slice vA vn vc]) (by simp [results, Tryz.results19, go_sem]) rfl ⟨by simp [HO.out], ?_⟩
      exact (by repeat (first | exact Below.refl _ _ | refine Below.drew ?_ | refine Below.alloc ?_ (by first | exact Nat.le_refl _ | (simp; done) | (simp; omega)) _ | refine Below.setCell ?_ (by first | exact Nat.le_refl _ | (simp; done) | (simp; omega)) _))
    · have hq : (op == 1) = false := by simpa using ho
      have HO := Lib.hid ho
      clear ho
      go_enter Tryz.func19, Tryz.ntmps19
      go_wp2_with fail
      refine bodyPost_ret (v := .agg #[.int .i64 op, .int .i64 rid, .int .i64 par, .int .i64 bef, .string tag, .string txt, .string key, .slice vA vn vc]) (by simp [results, Tryz.results19, go_sem]) rfl ⟨by simp [HO.out], ?_⟩
      exact (by repeat (first | exact Below.refl _ _ | refine Below.drew ?_ | refine Below.alloc ?_ (by first | exact Nat.le_refl _ | (simp; done) | (simp; omega)) _ | refine Below.setCell ?_ (by first | exact Nat.le_refl _ | (simp; done) | (simp; omega)) _))
end Go.Proofs.YtihjdmdafiifhaaGreat.P5
