/- A node that goes, or the error; each change. -/
import Derived.Test.YtopnadaedcpaaaaDom9
namespace Go.Proofs.Ytopnadaedcpaaaa.P5
open Go.RowKit Kd P4
variable {B p : Nat} {x : Dx}

theorem sub_zero {l : List Nd} (h : Tr (fun y => hasL l y = true) (parOf l) (kidsOf l)) (f : Nat) (c : Int) : (0 : Int) ∉ sub (kidsOf l) f c ∨ c = 0 := by
  by_cases e : c = 0
  · exact .inr e
  · refine .inl fun hm => e ?_
    obtain ⟨j, hj⟩ := h.sub_it f c 0 hm
    rw [h.it0] at hj
    exact hj.symm
theorem Made.pre {w w1 w' : World} {r : Value} {d : D} {e : Ending} (h : Dc w B p x) (hb : Below w.heap.size w w1) (k : Made w1 B p x r d e w') : Made w B p x r d e w' := by
  obtain ⟨he, x', hd, hx⟩ := k
  exact ⟨he, x', (Did.below_ h hb).trans hd, hx⟩
set_option maxHeartbeats 1000000 in
theorem remove_any (i : Int) (w : World) (hwf : WF x.d) (h : Dc w B p x) : Calls Try.prog 39 #[.pointer (some ⟨p, 0, none⟩), .int .i64 i] w (Made w B p x (errV (goneD x.d i).1) (goneD x.d i).2) := by
  have H := Lib.hid h
  cases hh : hasL x.l i with
  | false =>
    have HH := Lib.hid hh
    have HD : Hid (goneD x.d i = (2, x.d)) := Lib.hid (if_pos hh)
    clear h hwf hh
    go_enter Try.func39, Try.ntmps39
    go_wp2_with fail
    refine (has_at i w HH.out H.out).mono ?_
    rintro e w1 ⟨rfl, b1⟩
    have B1 := Lib.hid b1
    clear b1
    go_wp2_with fail
    go_ret
    rw [HD.out]
    exact Made.same H.out B1.out rfl rfl
  | true =>
    have HH := Lib.hid hh
    have c1 : ¬ hasL x.d.l i = false := by rw [show x.d.l = x.l from rfl, hh]; simp
    by_cases h1 : i = 1
    · have hq : (i == 1) = true := by simpa using h1
      have HD : Hid (goneD x.d i = (4, x.d)) := Lib.hid (by unfold goneD; rw [if_neg c1, if_pos h1])
      clear h hwf hh c1 h1
      go_enter Try.func39, Try.ntmps39
      go_wp2_with fail
      refine (has_at i w HH.out H.out).mono ?_
      rintro e w1 ⟨rfl, b1⟩
      have B1 := Lib.hid b1
      clear b1
      go_wp2_with fail
      go_ret
      rw [HD.out]
      exact Made.same H.out B1.out rfl rfl
    · have hq : (i == 1) = false := by simpa using h1
      have HD : Hid (goneD x.d i = (0, { x.d with l := goneL x.l i, foc := fo x.foc (below (leaveL x.l i) i) })) := Lib.hid (by unfold goneD; rw [if_neg c1, if_neg h1]; rfl)
      have HWF := Lib.hid hwf
      have hTr : Tr (fun y => hasL x.l y = true) (parOf x.l) (kidsOf x.l) := hwf.tr
      have hT1 := leave_tr (i := i) hTr
      have HT1 := Lib.hid hT1
      have hi0 : i ≠ 0 := hTr.ne0 hh
      have hi1 : hasL (leaveL x.l i) i = true := by rw [leave_has]; exact hh
      have hR : x.rs.length ≤ 200 := by have h1 := h.ar.len; have h2 := h.ar.room; rw [List.length_map] at h1; omega
      have hso : SubOk (leaveL x.l i) (kidsOf (leaveL x.l i)) ((leaveL x.l i).length + 1) i := by
        refine ⟨?_, hT1.sub_nodup _ _ hi1, fun c hc => ⟨hT1.sub_h _ _ _ hi1 hc, rfl⟩⟩
        have := hT1.hb_all (L := idsOf (leaveL x.l i)) (fun y hy => has_ids.1 hy) hi1
        simpa [idsOf] using this
      have HSO := Lib.hid hso
      have HZ := Lib.hid (sub_zero hT1)
      have HK0 : Hid (∀ y, (0 : Int) ∉ kidsOf (leaveL x.l i) y) := Lib.hid (fun y hm => hT1.z (hT1.kid _ _ hm).2.1)
      have HKL : Hid (∀ y, (kidsOf (leaveL x.l i) y).length ≤ 1000) := Lib.hid (fun y => by
        have := nodup_len (kidsOf (leaveL x.l i) y) (idsOf (leaveL x.l i)) (hT1.nod y) (fun c hc => has_ids.1 (hT1.kid y c hc).2.1)
        rw [leave_ids] at this
        have hxl : (idsOf x.l).length = x.rs.length := by simp [idsOf, Dx.l]
        omega)
      have HI0 := Lib.hid hi0
      clear h hwf hh c1 h1 hTr hT1 hi0 hi1 hso
      go_enter Try.func39, Try.ntmps39
      go_wp2_with fail
      refine (has_at i w HH.out H.out).mono ?_
      rintro e w1 ⟨rfl, b1⟩
      have B1 := Lib.hid b1
      have H1 := Lib.hid (H.out.below b1)
      clear b1
      go_wp2_with fail
      refine (leave_any i w1 HWF.out HH.out H1.out).mono ?_
      rintro e w2 ⟨rfl, rs1, d2, hl2, hs2⟩
      have D2 := Lib.hid ((Did.below_ H.out B1.out).trans d2)
      have L2 := Lib.hid hl2
      have hlen : rs1.length ≤ 1000 := by
        have := congrArg List.length hs2
        simp only [List.length_map] at this
        omega
      clear d2 hl2 hs2
      go_wp2_with fail
      refine (drop_any (kidsOf (leaveL x.l i)) HZ.out HK0.out HKL.out ((leaveL x.l i).length + 1) i (x := { x with rs := rs1 }) w2 HI0.out hlen (by show SubOk (rs1.map (·.nd)) _ _ _; rw [L2.out]; exact HSO.out) D2.out.dc).mono ?_
      rintro e w3 ⟨rfl, v3, vi3, d3⟩
      have D3 := Lib.hid d3
      clear d3
      go_wp2_with fail
      go_ret
      rw [HD.out]
      refine ⟨rfl, _, D2.out.trans D3.out, ?_⟩
      show D.mk ((outR _ rs1).map (·.nd)) x.n x.R _ = D.mk (goneL x.l i) x.n x.R _
      rw [outR_nd, L2.out]
      rfl

/-! ### Apply -/
structure ArgR (w : World) (A : Option Addr) (n c : Nat) (r : Rc) : Prop where
  at_ : ArgA w A n c r.attrs
  tag : r.tag.size ≤ maxLen
  txt : r.txt.size ≤ maxLen
  key : r.key.size ≤ maxLen
theorem ArgR.below {w w' : World} {A : Option Addr} {n c : Nat} {r : Rc} (h : ArgR w A n c r) (hb : Below w.heap.size w w') : ArgR w' A n c r := ⟨h.at_.below hb, h.tag, h.txt, h.key⟩
set_option maxHeartbeats 1000000 in
theorem apply_any (r : Rc) (A : Option Addr) (n c : Nat) (w : World) (hwf : WF x.d) (hn : x.n ≤ 100000) (ha : ArgR w A n c r) (h : Dc w B p x) : Calls Try.prog 16 #[.pointer (some ⟨p, 0, none⟩), .agg #[.int .i64 r.op, .int .i64 r.id, .int .i64 r.par, .int .i64 r.bef, .string r.tag, .string r.txt, .string r.key, .slice A n c]] w (Made w B p x (errV (applyD x.d r).1) (applyD x.d r).2) := by
  have H := Lib.hid h
  have HWF := Lib.hid hwf
  have B1 : Hid (Below w.heap.size w (w.alloc (.cells #[.int .i64 r.op, .int .i64 r.id, .int .i64 r.par, .int .i64 r.bef, .string r.tag, .string r.txt, .string r.key, .slice A n c] 35))) := Lib.hid ((Below.refl _ _).alloc (Nat.le_refl _) _)
  have H1 := Lib.hid (h.below B1.out)
  have HA := Lib.hid (ha.below B1.out)
  have hR : x.rs.length ≤ x.R := by have := h.ar.len; rwa [List.length_map] at this
  have s1 := Lib.hid ha.tag
  have s2 := Lib.hid ha.txt
  have s3 := Lib.hid ha.key
  clear h hwf ha
  by_cases e1 : r.op = 1
  · have q1 : (r.op == 1) = true := by simpa using e1
    have HD : Hid (applyD x.d r = makeD x.d r) := Lib.hid (by unfold applyD; simp [e1])
    clear e1
    go_enter Try.func16, Try.ntmps16
    go_wp2_with fail
    refine (create_any r A n c _ hn s1.out s2.out s3.out hR H1.out).mono ?_
    rintro e w2 hm
    obtain ⟨rfl, x2, d2, hx2⟩ := hm
    have D2 := Lib.hid ((Did.below_ H.out B1.out).trans d2)
    have X2 := Lib.hid hx2
    clear d2 hx2
    go_wp2_with fail
    go_ret
    rw [HD.out]
    exact ⟨rfl, x2, D2.out, X2.out⟩
  have q1 : (r.op == 1) = false := by simpa using e1
  by_cases e2 : r.op = 2
  · have q2 : (r.op == 2) = true := by simpa using e2
    have HD : Hid (applyD x.d r = putD x.d r.id r.par r.bef) := Lib.hid (by unfold applyD; simp [e1, e2])
    clear e2 e1
    go_enter Try.func16, Try.ntmps16
    go_wp2_with fail
    refine (put_any r.id r.par r.bef _ HWF.out H1.out).mono ?_
    rintro e w2 hm
    obtain ⟨rfl, x2, d2, hx2⟩ := hm
    have D2 := Lib.hid ((Did.below_ H.out B1.out).trans d2)
    have X2 := Lib.hid hx2
    clear d2 hx2
    go_wp2_with fail
    go_ret
    rw [HD.out]
    exact ⟨rfl, x2, D2.out, X2.out⟩
  have q2 : (r.op == 2) = false := by simpa using e2
  by_cases e3 : r.op = 3
  · have q3 : (r.op == 3) = true := by simpa using e3
    have HD : Hid (applyD x.d r = goneD x.d r.id) := Lib.hid (by unfold applyD; simp [e1, e2, e3])
    clear e3 e1 e2
    go_enter Try.func16, Try.ntmps16
    go_wp2_with fail
    refine (remove_any r.id _ HWF.out H1.out).mono ?_
    rintro e w2 hm
    obtain ⟨rfl, x2, d2, hx2⟩ := hm
    have D2 := Lib.hid ((Did.below_ H.out B1.out).trans d2)
    have X2 := Lib.hid hx2
    clear d2 hx2
    go_wp2_with fail
    go_ret
    rw [HD.out]
    exact ⟨rfl, x2, D2.out, X2.out⟩
  have q3 : (r.op == 3) = false := by simpa using e3
  by_cases e4 : r.op = 4
  · have q4 : (r.op == 4) = true := by simpa using e4
    have HD : Hid (applyD x.d r = attrsD x.d r.id r.attrs) := Lib.hid (by unfold applyD; simp [e1, e2, e3, e4])
    clear e4 e1 e2 e3
    go_enter Try.func16, Try.ntmps16
    go_wp2_with fail
    refine (setAttrs_any r.id A n c r.attrs _ HA.out.at_ H1.out).mono ?_
    rintro e w2 hm
    obtain ⟨rfl, x2, d2, hx2⟩ := hm
    have D2 := Lib.hid ((Did.below_ H.out B1.out).trans d2)
    have X2 := Lib.hid hx2
    clear d2 hx2
    go_wp2_with fail
    go_ret
    rw [HD.out]
    exact ⟨rfl, x2, D2.out, X2.out⟩
  have q4 : (r.op == 4) = false := by simpa using e4
  by_cases e5 : r.op = 5
  · have q5 : (r.op == 5) = true := by simpa using e5
    have HD : Hid (applyD x.d r = dataD x.d r.id r.txt) := Lib.hid (by unfold applyD; simp [e1, e2, e3, e4, e5])
    clear e5 e1 e2 e3 e4
    go_enter Try.func16, Try.ntmps16
    go_wp2_with fail
    refine (setText_any r.id r.txt _ s2.out H1.out).mono ?_
    rintro e w2 hm
    obtain ⟨rfl, x2, d2, hx2⟩ := hm
    have D2 := Lib.hid ((Did.below_ H.out B1.out).trans d2)
    have X2 := Lib.hid hx2
    clear d2 hx2
    go_wp2_with fail
    go_ret
    rw [HD.out]
    exact ⟨rfl, x2, D2.out, X2.out⟩
  have q5 : (r.op == 5) = false := by simpa using e5
  have HD : Hid (applyD x.d r = (1, x.d)) := Lib.hid (by unfold applyD; simp [e1, e2, e3, e4, e5])
  clear e1 e2 e3 e4 e5
  go_enter Try.func16, Try.ntmps16
  go_wp2_with fail
  go_ret
  rw [HD.out]
  exact Made.same H.out B1.out rfl rfl
end Go.Proofs.Ytopnadaedcpaaaa.P5
