/- A node that is put: each error, or where it stands then. -/
import Derived.Test.YtihjdmdafiifhaaGreatM12
set_option linter.unusedVariables false
set_option linter.unusedSimpArgs false
set_option linter.unusedVariables false
set_option linter.unusedSimpArgs false
namespace Go.Proofs.YtihjdmdafiifhaaGreat.P5
open Go.RowKit Kd P4
variable {B p : Nat} {x : Dx}

theorem void_at (t : ByteArray) {r : Bool} (w : World) (h : P1.voidB t.data.toList = r) : Calls Tryz.prog 50 #[.string t] w fun e w' => e = .returned (.bool r) ∧ w = w' := by
  subst h; exact P1.void_any t w
theorem inside_at (a b : Int) {r : Bool} (w : World) (hr : inside x.l a b = r) (hwf : WF x.d) (ha : hasL x.l a = true) (hb : hasL x.l b = true) (h : Dc w B p x) : Calls Tryz.prog 51 #[.pointer (some ⟨p, 0, none⟩), .int .i64 a, .int .i64 b] w fun e w' => e = .returned (.bool r) ∧ Below w.heap.size w w' := by
  subst hr; exact inside_any a b w hwf ha hb h

set_option maxHeartbeats 1000000 in
theorem put_e2a (i q b : Int) (w : World) (hi : hasL x.l i = false) (h : Dc w B p x) : Calls Tryz.prog 28 #[.pointer (some ⟨p, 0, none⟩), .int .i64 i, .int .i64 q, .int .i64 b] w fun e w' => e = .returned (.iface 97 (.int .i64 2)) ∧ Below w.heap.size w w' := by
  have B0 := Lib.hid (Below.refl w.heap.size w)
  have H0 := Lib.hid h
  have HI := Lib.hid hi
  clear h hi
  go_enter Tryz.func28, Tryz.ntmps28
  go_wp2_with fail
  refine (has_at i w HI.out H0.out).mono ?_
  rintro e w1 ⟨rfl, bb⟩
  have B1 := Lib.hid (B0.out.trans (bb.mono B0.out.size))
  have H1 := Lib.hid (H0.out.below bb)
  clear bb
  go_wp2_with fail
  go_ret
  exact ⟨rfl, B1.out⟩
set_option maxHeartbeats 1000000 in
theorem put_e2b (i q b : Int) (w : World) (hi : hasL x.l i = true) (hp : hasL x.l q = false) (h : Dc w B p x) : Calls Tryz.prog 28 #[.pointer (some ⟨p, 0, none⟩), .int .i64 i, .int .i64 q, .int .i64 b] w fun e w' => e = .returned (.iface 97 (.int .i64 2)) ∧ Below w.heap.size w w' := by
  have B0 := Lib.hid (Below.refl w.heap.size w)
  have H0 := Lib.hid h
  have HI := Lib.hid hi
  have HP := Lib.hid hp
  clear h hi hp
  go_enter Tryz.func28, Tryz.ntmps28
  go_wp2_with fail
  refine (has_at i w HI.out H0.out).mono ?_
  rintro e w1 ⟨rfl, bb⟩
  have B1 := Lib.hid (B0.out.trans (bb.mono B0.out.size))
  have H1 := Lib.hid (H0.out.below bb)
  clear bb
  go_wp2_with fail
  refine (has_at q w1 HP.out H1.out).mono ?_
  rintro e w2 ⟨rfl, bb⟩
  have B2 := Lib.hid (B1.out.trans (bb.mono B1.out.size))
  have H2 := Lib.hid (H1.out.below bb)
  clear bb
  go_wp2_with fail
  go_ret
  exact ⟨rfl, B2.out⟩
set_option maxHeartbeats 1000000 in
theorem put_e2c (i q b : Int) (w : World) (hi : hasL x.l i = true) (hp : hasL x.l q = true) (hq : (b != 0) = true) (hb : hasL x.l b = false) (h : Dc w B p x) : Calls Tryz.prog 28 #[.pointer (some ⟨p, 0, none⟩), .int .i64 i, .int .i64 q, .int .i64 b] w fun e w' => e = .returned (.iface 97 (.int .i64 2)) ∧ Below w.heap.size w w' := by
  have B0 := Lib.hid (Below.refl w.heap.size w)
  have H0 := Lib.hid h
  have HI := Lib.hid hi
  have HP := Lib.hid hp
  have HB := Lib.hid hb
  clear h hi hp hb
  go_enter Tryz.func28, Tryz.ntmps28
  go_wp2_with fail
  refine (has_at i w HI.out H0.out).mono ?_
  rintro e w1 ⟨rfl, bb⟩
  have B1 := Lib.hid (B0.out.trans (bb.mono B0.out.size))
  have H1 := Lib.hid (H0.out.below bb)
  clear bb
  go_wp2_with fail
  refine (has_at q w1 HP.out H1.out).mono ?_
  rintro e w2 ⟨rfl, bb⟩
  have B2 := Lib.hid (B1.out.trans (bb.mono B1.out.size))
  have H2 := Lib.hid (H1.out.below bb)
  clear bb
  go_wp2_with fail
  refine (has_at b w2 HB.out H2.out).mono ?_
  rintro e w3 ⟨rfl, bb⟩
  have B3 := Lib.hid (B2.out.trans (bb.mono B2.out.size))
  have H3 := Lib.hid (H2.out.below bb)
  clear bb
  go_wp2_with fail
  go_ret
  exact ⟨rfl, B3.out⟩
set_option maxHeartbeats 1000000 in
theorem put_e40 (i q b : Int) (w : World) (hi : hasL x.l i = true) (hp : hasL x.l q = true) (hq : (b != 0) = false) (h1 : (i == 1) = true) (h : Dc w B p x) : Calls Tryz.prog 28 #[.pointer (some ⟨p, 0, none⟩), .int .i64 i, .int .i64 q, .int .i64 b] w fun e w' => e = .returned (.iface 97 (.int .i64 4)) ∧ Below w.heap.size w w' := by
  have B0 := Lib.hid (Below.refl w.heap.size w)
  have H0 := Lib.hid h
  have HI := Lib.hid hi
  have HP := Lib.hid hp
  clear h hi hp
  go_enter Tryz.func28, Tryz.ntmps28
  go_wp2_with fail
  refine (has_at i w HI.out H0.out).mono ?_
  rintro e w1 ⟨rfl, bb⟩
  have B1 := Lib.hid (B0.out.trans (bb.mono B0.out.size))
  have H1 := Lib.hid (H0.out.below bb)
  clear bb
  go_wp2_with fail
  refine (has_at q w1 HP.out H1.out).mono ?_
  rintro e w2 ⟨rfl, bb⟩
  have B2 := Lib.hid (B1.out.trans (bb.mono B1.out.size))
  have H2 := Lib.hid (H1.out.below bb)
  clear bb
  go_wp2_with fail
  go_ret
  exact ⟨rfl, B2.out⟩
set_option maxHeartbeats 1000000 in
theorem put_e41 (i q b : Int) (w : World) (hi : hasL x.l i = true) (hp : hasL x.l q = true) (hq : (b != 0) = true) (hb : hasL x.l b = true) (h1 : (i == 1) = true) (h : Dc w B p x) : Calls Tryz.prog 28 #[.pointer (some ⟨p, 0, none⟩), .int .i64 i, .int .i64 q, .int .i64 b] w fun e w' => e = .returned (.iface 97 (.int .i64 4)) ∧ Below w.heap.size w w' := by
  have B0 := Lib.hid (Below.refl w.heap.size w)
  have H0 := Lib.hid h
  have HI := Lib.hid hi
  have HP := Lib.hid hp
  have HB := Lib.hid hb
  clear h hi hp hb
  go_enter Tryz.func28, Tryz.ntmps28
  go_wp2_with fail
  refine (has_at i w HI.out H0.out).mono ?_
  rintro e w1 ⟨rfl, bb⟩
  have B1 := Lib.hid (B0.out.trans (bb.mono B0.out.size))
  have H1 := Lib.hid (H0.out.below bb)
  clear bb
  go_wp2_with fail
  refine (has_at q w1 HP.out H1.out).mono ?_
  rintro e w2 ⟨rfl, bb⟩
  have B2 := Lib.hid (B1.out.trans (bb.mono B1.out.size))
  have H2 := Lib.hid (H1.out.below bb)
  clear bb
  go_wp2_with fail
  refine (has_at b w2 HB.out H2.out).mono ?_
  rintro e w3 ⟨rfl, bb⟩
  have B3 := Lib.hid (B2.out.trans (bb.mono B2.out.size))
  have H3 := Lib.hid (H2.out.below bb)
  clear bb
  go_wp2_with fail
  go_ret
  exact ⟨rfl, B3.out⟩
set_option maxHeartbeats 1000000 in
theorem put_e3a0 (i q b : Int) (w : World) (hi : hasL x.l i = true) (hp : hasL x.l q = true) (hq : (b != 0) = false) (h1 : (i == 1) = false) (ht : (tagOf x.l q).toList.isEmpty = true) (h : Dc w B p x) : Calls Tryz.prog 28 #[.pointer (some ⟨p, 0, none⟩), .int .i64 i, .int .i64 q, .int .i64 b] w fun e w' => e = .returned (.iface 97 (.int .i64 3)) ∧ Below w.heap.size w w' := by
  have B0 := Lib.hid (Below.refl w.heap.size w)
  have H0 := Lib.hid h
  obtain ⟨m, hm, hym, _⟩ := h.place hp
  obtain ⟨tg, htg⟩ : ∃ tg, x.rs[m].nd.tag = tg := ⟨_, rfl⟩
  have htag : tg = tagOf x.l q := by rw [(tag_at h hm hym).1, htg]
  obtain ⟨bm, hbm⟩ : ∃ bm, x.rs[m].b = bm := ⟨_, rfl⟩
  rw [← htag] at ht
  have HI := Lib.hid hi
  have HP := Lib.hid hp
  have HYM := Lib.hid hym
  have HTG := Lib.hid htg
  have HBM := Lib.hid hbm
  clear h hi hp hym htg htag hbm
  go_enter Tryz.func28, Tryz.ntmps28
  go_wp2_with fail
  refine (has_at i w HI.out H0.out).mono ?_
  rintro e w1 ⟨rfl, bb⟩
  have B1 := Lib.hid (B0.out.trans (bb.mono B0.out.size))
  have H1 := Lib.hid (H0.out.below bb)
  clear bb
  go_wp2_with fail
  refine (has_at q w1 HP.out H1.out).mono ?_
  rintro e w2 ⟨rfl, bb⟩
  have B2 := Lib.hid (B1.out.trans (bb.mono B1.out.size))
  have H2 := Lib.hid (H1.out.below bb)
  clear bb
  go_wp2_with fail
  refine (node_at q w2 hm HYM.out HBM.out H2.out).mono ?_
  rintro e w3 ⟨rfl, bb⟩
  have B3 := Lib.hid (B2.out.trans (bb.mono B2.out.size))
  have H3 := Lib.hid (H2.out.below bb)
  have d2 : w3.cell? ⟨bm, 2, none⟩ = some (.string tg) := by have := (H3.out.nd hm).c2; rwa [HBM.out, HTG.out] at this
  clear bb
  go_wp2_with fail
  go_ret
  exact ⟨rfl, B3.out⟩
set_option maxHeartbeats 1000000 in
theorem put_e3a1 (i q b : Int) (w : World) (hi : hasL x.l i = true) (hp : hasL x.l q = true) (hq : (b != 0) = true) (hb : hasL x.l b = true) (h1 : (i == 1) = false) (ht : (tagOf x.l q).toList.isEmpty = true) (h : Dc w B p x) : Calls Tryz.prog 28 #[.pointer (some ⟨p, 0, none⟩), .int .i64 i, .int .i64 q, .int .i64 b] w fun e w' => e = .returned (.iface 97 (.int .i64 3)) ∧ Below w.heap.size w w' := by
  have B0 := Lib.hid (Below.refl w.heap.size w)
  have H0 := Lib.hid h
  obtain ⟨m, hm, hym, _⟩ := h.place hp
  obtain ⟨tg, htg⟩ : ∃ tg, x.rs[m].nd.tag = tg := ⟨_, rfl⟩
  have htag : tg = tagOf x.l q := by rw [(tag_at h hm hym).1, htg]
  obtain ⟨bm, hbm⟩ : ∃ bm, x.rs[m].b = bm := ⟨_, rfl⟩
  rw [← htag] at ht
  have HI := Lib.hid hi
  have HP := Lib.hid hp
  have HB := Lib.hid hb
  have HYM := Lib.hid hym
  have HTG := Lib.hid htg
  have HBM := Lib.hid hbm
  clear h hi hp hb hym htg htag hbm
  go_enter Tryz.func28, Tryz.ntmps28
  go_wp2_with fail
  refine (has_at i w HI.out H0.out).mono ?_
  rintro e w1 ⟨rfl, bb⟩
  have B1 := Lib.hid (B0.out.trans (bb.mono B0.out.size))
  have H1 := Lib.hid (H0.out.below bb)
  clear bb
  go_wp2_with fail
  refine (has_at q w1 HP.out H1.out).mono ?_
  rintro e w2 ⟨rfl, bb⟩
  have B2 := Lib.hid (B1.out.trans (bb.mono B1.out.size))
  have H2 := Lib.hid (H1.out.below bb)
  clear bb
  go_wp2_with fail
  refine (has_at b w2 HB.out H2.out).mono ?_
  rintro e w3 ⟨rfl, bb⟩
  have B3 := Lib.hid (B2.out.trans (bb.mono B2.out.size))
  have H3 := Lib.hid (H2.out.below bb)
  clear bb
  go_wp2_with fail
  refine (node_at q w3 hm HYM.out HBM.out H3.out).mono ?_
  rintro e w4 ⟨rfl, bb⟩
  have B4 := Lib.hid (B3.out.trans (bb.mono B3.out.size))
  have H4 := Lib.hid (H3.out.below bb)
  have d2 : w4.cell? ⟨bm, 2, none⟩ = some (.string tg) := by have := (H4.out.nd hm).c2; rwa [HBM.out, HTG.out] at this
  clear bb
  go_wp2_with fail
  go_ret
  exact ⟨rfl, B4.out⟩
set_option maxHeartbeats 1000000 in
theorem put_e3b0 (i q b : Int) (w : World) (hi : hasL x.l i = true) (hp : hasL x.l q = true) (hq : (b != 0) = false) (h1 : (i == 1) = false) (ht : (tagOf x.l q).toList.isEmpty = false) (hv : P1.voidB (tagOf x.l q).data.toList = true) (h : Dc w B p x) : Calls Tryz.prog 28 #[.pointer (some ⟨p, 0, none⟩), .int .i64 i, .int .i64 q, .int .i64 b] w fun e w' => e = .returned (.iface 97 (.int .i64 3)) ∧ Below w.heap.size w w' := by
  have B0 := Lib.hid (Below.refl w.heap.size w)
  have H0 := Lib.hid h
  obtain ⟨m, hm, hym, _⟩ := h.place hp
  obtain ⟨tg, htg⟩ : ∃ tg, x.rs[m].nd.tag = tg := ⟨_, rfl⟩
  have htag : tg = tagOf x.l q := by rw [(tag_at h hm hym).1, htg]
  obtain ⟨bm, hbm⟩ : ∃ bm, x.rs[m].b = bm := ⟨_, rfl⟩
  rw [← htag] at ht
  rw [← htag] at hv
  have HI := Lib.hid hi
  have HP := Lib.hid hp
  have HYM := Lib.hid hym
  have HTG := Lib.hid htg
  have HBM := Lib.hid hbm
  have HV := Lib.hid hv
  clear h hi hp hym htg htag hbm hv
  go_enter Tryz.func28, Tryz.ntmps28
  go_wp2_with fail
  refine (has_at i w HI.out H0.out).mono ?_
  rintro e w1 ⟨rfl, bb⟩
  have B1 := Lib.hid (B0.out.trans (bb.mono B0.out.size))
  have H1 := Lib.hid (H0.out.below bb)
  clear bb
  go_wp2_with fail
  refine (has_at q w1 HP.out H1.out).mono ?_
  rintro e w2 ⟨rfl, bb⟩
  have B2 := Lib.hid (B1.out.trans (bb.mono B1.out.size))
  have H2 := Lib.hid (H1.out.below bb)
  clear bb
  go_wp2_with fail
  refine (node_at q w2 hm HYM.out HBM.out H2.out).mono ?_
  rintro e w3 ⟨rfl, bb⟩
  have B3 := Lib.hid (B2.out.trans (bb.mono B2.out.size))
  have H3 := Lib.hid (H2.out.below bb)
  have d2 : w3.cell? ⟨bm, 2, none⟩ = some (.string tg) := by have := (H3.out.nd hm).c2; rwa [HBM.out, HTG.out] at this
  clear bb
  go_wp2_with fail
  refine (void_at tg w3 HV.out).mono ?_
  rintro e w' ⟨rfl, rfl⟩
  go_wp2_with fail
  go_ret
  exact ⟨rfl, B3.out⟩
set_option maxHeartbeats 1000000 in
theorem put_e3b1 (i q b : Int) (w : World) (hi : hasL x.l i = true) (hp : hasL x.l q = true) (hq : (b != 0) = true) (hb : hasL x.l b = true) (h1 : (i == 1) = false) (ht : (tagOf x.l q).toList.isEmpty = false) (hv : P1.voidB (tagOf x.l q).data.toList = true) (h : Dc w B p x) : Calls Tryz.prog 28 #[.pointer (some ⟨p, 0, none⟩), .int .i64 i, .int .i64 q, .int .i64 b] w fun e w' => e = .returned (.iface 97 (.int .i64 3)) ∧ Below w.heap.size w w' := by
  have B0 := Lib.hid (Below.refl w.heap.size w)
  have H0 := Lib.hid h
  obtain ⟨m, hm, hym, _⟩ := h.place hp
  obtain ⟨tg, htg⟩ : ∃ tg, x.rs[m].nd.tag = tg := ⟨_, rfl⟩
  have htag : tg = tagOf x.l q := by rw [(tag_at h hm hym).1, htg]
  obtain ⟨bm, hbm⟩ : ∃ bm, x.rs[m].b = bm := ⟨_, rfl⟩
  rw [← htag] at ht
  rw [← htag] at hv
  have HI := Lib.hid hi
  have HP := Lib.hid hp
  have HB := Lib.hid hb
  have HYM := Lib.hid hym
  have HTG := Lib.hid htg
  have HBM := Lib.hid hbm
  have HV := Lib.hid hv
  clear h hi hp hb hym htg htag hbm hv
  go_enter Tryz.func28, Tryz.ntmps28
  go_wp2_with fail
  refine (has_at i w HI.out H0.out).mono ?_
  rintro e w1 ⟨rfl, bb⟩
  have B1 := Lib.hid (B0.out.trans (bb.mono B0.out.size))
  have H1 := Lib.hid (H0.out.below bb)
  clear bb
  go_wp2_with fail
  refine (has_at q w1 HP.out H1.out).mono ?_
  rintro e w2 ⟨rfl, bb⟩
  have B2 := Lib.hid (B1.out.trans (bb.mono B1.out.size))
  have H2 := Lib.hid (H1.out.below bb)
  clear bb
  go_wp2_with fail
  refine (has_at b w2 HB.out H2.out).mono ?_
  rintro e w3 ⟨rfl, bb⟩
  have B3 := Lib.hid (B2.out.trans (bb.mono B2.out.size))
  have H3 := Lib.hid (H2.out.below bb)
  clear bb
  go_wp2_with fail
  refine (node_at q w3 hm HYM.out HBM.out H3.out).mono ?_
  rintro e w4 ⟨rfl, bb⟩
  have B4 := Lib.hid (B3.out.trans (bb.mono B3.out.size))
  have H4 := Lib.hid (H3.out.below bb)
  have d2 : w4.cell? ⟨bm, 2, none⟩ = some (.string tg) := by have := (H4.out.nd hm).c2; rwa [HBM.out, HTG.out] at this
  clear bb
  go_wp2_with fail
  refine (void_at tg w4 HV.out).mono ?_
  rintro e w' ⟨rfl, rfl⟩
  go_wp2_with fail
  go_ret
  exact ⟨rfl, B4.out⟩
set_option maxHeartbeats 1000000 in
theorem put_e1a1 (i q b : Int) (w : World) (hi : hasL x.l i = true) (hp : hasL x.l q = true) (hq : (b != 0) = true) (hb : hasL x.l b = true) (h1 : (i == 1) = false) (ht : (tagOf x.l q).toList.isEmpty = false) (hv : P1.voidB (tagOf x.l q).data.toList = false) (hbi : (b == i) = true) (h : Dc w B p x) : Calls Tryz.prog 28 #[.pointer (some ⟨p, 0, none⟩), .int .i64 i, .int .i64 q, .int .i64 b] w fun e w' => e = .returned (.iface 97 (.int .i64 1)) ∧ Below w.heap.size w w' := by
  have B0 := Lib.hid (Below.refl w.heap.size w)
  have H0 := Lib.hid h
  obtain ⟨m, hm, hym, _⟩ := h.place hp
  obtain ⟨tg, htg⟩ : ∃ tg, x.rs[m].nd.tag = tg := ⟨_, rfl⟩
  have htag : tg = tagOf x.l q := by rw [(tag_at h hm hym).1, htg]
  obtain ⟨bm, hbm⟩ : ∃ bm, x.rs[m].b = bm := ⟨_, rfl⟩
  rw [← htag] at ht
  rw [← htag] at hv
  have HI := Lib.hid hi
  have HP := Lib.hid hp
  have HB := Lib.hid hb
  have HYM := Lib.hid hym
  have HTG := Lib.hid htg
  have HBM := Lib.hid hbm
  have HV := Lib.hid hv
  clear h hi hp hb hym htg htag hbm hv
  go_enter Tryz.func28, Tryz.ntmps28
  go_wp2_with fail
  refine (has_at i w HI.out H0.out).mono ?_
  rintro e w1 ⟨rfl, bb⟩
  have B1 := Lib.hid (B0.out.trans (bb.mono B0.out.size))
  have H1 := Lib.hid (H0.out.below bb)
  clear bb
  go_wp2_with fail
  refine (has_at q w1 HP.out H1.out).mono ?_
  rintro e w2 ⟨rfl, bb⟩
  have B2 := Lib.hid (B1.out.trans (bb.mono B1.out.size))
  have H2 := Lib.hid (H1.out.below bb)
  clear bb
  go_wp2_with fail
  refine (has_at b w2 HB.out H2.out).mono ?_
  rintro e w3 ⟨rfl, bb⟩
  have B3 := Lib.hid (B2.out.trans (bb.mono B2.out.size))
  have H3 := Lib.hid (H2.out.below bb)
  clear bb
  go_wp2_with fail
  refine (node_at q w3 hm HYM.out HBM.out H3.out).mono ?_
  rintro e w4 ⟨rfl, bb⟩
  have B4 := Lib.hid (B3.out.trans (bb.mono B3.out.size))
  have H4 := Lib.hid (H3.out.below bb)
  have d2 : w4.cell? ⟨bm, 2, none⟩ = some (.string tg) := by have := (H4.out.nd hm).c2; rwa [HBM.out, HTG.out] at this
  clear bb
  go_wp2_with fail
  refine (void_at tg w4 HV.out).mono ?_
  rintro e w' ⟨rfl, rfl⟩
  go_wp2_with fail
  go_ret
  exact ⟨rfl, B4.out⟩
set_option maxHeartbeats 1000000 in
theorem put_e1b1 (i q b : Int) (w : World) (hi : hasL x.l i = true) (hp : hasL x.l q = true) (hq : (b != 0) = true) (hb : hasL x.l b = true) (h1 : (i == 1) = false) (ht : (tagOf x.l q).toList.isEmpty = false) (hv : P1.voidB (tagOf x.l q).data.toList = false) (hbi : (b == i) = false) (hpar : (parOf x.l b != q) = true) (h : Dc w B p x) : Calls Tryz.prog 28 #[.pointer (some ⟨p, 0, none⟩), .int .i64 i, .int .i64 q, .int .i64 b] w fun e w' => e = .returned (.iface 97 (.int .i64 1)) ∧ Below w.heap.size w w' := by
  have B0 := Lib.hid (Below.refl w.heap.size w)
  have H0 := Lib.hid h
  obtain ⟨m, hm, hym, _⟩ := h.place hp
  obtain ⟨tg, htg⟩ : ∃ tg, x.rs[m].nd.tag = tg := ⟨_, rfl⟩
  have htag : tg = tagOf x.l q := by rw [(tag_at h hm hym).1, htg]
  obtain ⟨bm, hbm⟩ : ∃ bm, x.rs[m].b = bm := ⟨_, rfl⟩
  rw [← htag] at ht
  rw [← htag] at hv
  obtain ⟨j, hj, hyj, _⟩ := h.place hb
  obtain ⟨pb, hpb⟩ : ∃ pb, x.rs[j].nd.par = pb := ⟨_, rfl⟩
  rw [(tag_at h hj hyj).2.1, hpb] at hpar
  obtain ⟨bj, hbj⟩ : ∃ bj, x.rs[j].b = bj := ⟨_, rfl⟩
  have HI := Lib.hid hi
  have HP := Lib.hid hp
  have HB := Lib.hid hb
  have HYM := Lib.hid hym
  have HTG := Lib.hid htg
  have HBM := Lib.hid hbm
  have HV := Lib.hid hv
  have HYJ := Lib.hid hyj
  have HPB := Lib.hid hpb
  have HBJ := Lib.hid hbj
  clear h hi hp hb hym htg htag hbm hv hyj hpb hbj
  go_enter Tryz.func28, Tryz.ntmps28
  go_wp2_with fail
  refine (has_at i w HI.out H0.out).mono ?_
  rintro e w1 ⟨rfl, bb⟩
  have B1 := Lib.hid (B0.out.trans (bb.mono B0.out.size))
  have H1 := Lib.hid (H0.out.below bb)
  clear bb
  go_wp2_with fail
  refine (has_at q w1 HP.out H1.out).mono ?_
  rintro e w2 ⟨rfl, bb⟩
  have B2 := Lib.hid (B1.out.trans (bb.mono B1.out.size))
  have H2 := Lib.hid (H1.out.below bb)
  clear bb
  go_wp2_with fail
  refine (has_at b w2 HB.out H2.out).mono ?_
  rintro e w3 ⟨rfl, bb⟩
  have B3 := Lib.hid (B2.out.trans (bb.mono B2.out.size))
  have H3 := Lib.hid (H2.out.below bb)
  clear bb
  go_wp2_with fail
  refine (node_at q w3 hm HYM.out HBM.out H3.out).mono ?_
  rintro e w4 ⟨rfl, bb⟩
  have B4 := Lib.hid (B3.out.trans (bb.mono B3.out.size))
  have H4 := Lib.hid (H3.out.below bb)
  have d2 : w4.cell? ⟨bm, 2, none⟩ = some (.string tg) := by have := (H4.out.nd hm).c2; rwa [HBM.out, HTG.out] at this
  clear bb
  go_wp2_with fail
  refine (void_at tg w4 HV.out).mono ?_
  rintro e w' ⟨rfl, rfl⟩
  go_wp2_with fail
  refine (node_at b w4 hj HYJ.out HBJ.out H4.out).mono ?_
  rintro e w5 ⟨rfl, bb⟩
  have B5 := Lib.hid (B4.out.trans (bb.mono B4.out.size))
  have H5 := Lib.hid (H4.out.below bb)
  have d1 : w5.cell? ⟨bj, 1, none⟩ = some (.int .i64 pb) := by have := (H5.out.nd hj).c1; rwa [HBJ.out, HPB.out] at this
  clear bb
  go_wp2_with fail
  go_ret
  exact ⟨rfl, B5.out⟩
set_option maxHeartbeats 1000000 in
theorem put_e50 (i q b : Int) (w : World) (hi : hasL x.l i = true) (hp : hasL x.l q = true) (hq : (b != 0) = false) (h1 : (i == 1) = false) (ht : (tagOf x.l q).toList.isEmpty = false) (hv : P1.voidB (tagOf x.l q).data.toList = false) (hwf : WF x.d) (hin : inside x.l q i = true) (h : Dc w B p x) : Calls Tryz.prog 28 #[.pointer (some ⟨p, 0, none⟩), .int .i64 i, .int .i64 q, .int .i64 b] w fun e w' => e = .returned (.iface 97 (.int .i64 5)) ∧ Below w.heap.size w w' := by
  have B0 := Lib.hid (Below.refl w.heap.size w)
  have H0 := Lib.hid h
  obtain ⟨m, hm, hym, _⟩ := h.place hp
  obtain ⟨tg, htg⟩ : ∃ tg, x.rs[m].nd.tag = tg := ⟨_, rfl⟩
  have htag : tg = tagOf x.l q := by rw [(tag_at h hm hym).1, htg]
  obtain ⟨bm, hbm⟩ : ∃ bm, x.rs[m].b = bm := ⟨_, rfl⟩
  rw [← htag] at ht
  rw [← htag] at hv
  have HI := Lib.hid hi
  have HP := Lib.hid hp
  have HYM := Lib.hid hym
  have HTG := Lib.hid htg
  have HBM := Lib.hid hbm
  have HV := Lib.hid hv
  have HWF := Lib.hid hwf
  have HIN := Lib.hid hin
  clear h hi hp hym htg htag hbm hv hwf hin
  go_enter Tryz.func28, Tryz.ntmps28
  go_wp2_with fail
  refine (has_at i w HI.out H0.out).mono ?_
  rintro e w1 ⟨rfl, bb⟩
  have B1 := Lib.hid (B0.out.trans (bb.mono B0.out.size))
  have H1 := Lib.hid (H0.out.below bb)
  clear bb
  go_wp2_with fail
  refine (has_at q w1 HP.out H1.out).mono ?_
  rintro e w2 ⟨rfl, bb⟩
  have B2 := Lib.hid (B1.out.trans (bb.mono B1.out.size))
  have H2 := Lib.hid (H1.out.below bb)
  clear bb
  go_wp2_with fail
  refine (node_at q w2 hm HYM.out HBM.out H2.out).mono ?_
  rintro e w3 ⟨rfl, bb⟩
  have B3 := Lib.hid (B2.out.trans (bb.mono B2.out.size))
  have H3 := Lib.hid (H2.out.below bb)
  have d2 : w3.cell? ⟨bm, 2, none⟩ = some (.string tg) := by have := (H3.out.nd hm).c2; rwa [HBM.out, HTG.out] at this
  clear bb
  go_wp2_with fail
  refine (void_at tg w3 HV.out).mono ?_
  rintro e w' ⟨rfl, rfl⟩
  go_wp2_with fail
  refine (inside_at q i w3 HIN.out HWF.out HP.out HI.out H3.out).mono ?_
  rintro e w4 ⟨rfl, bb⟩
  have B4 := Lib.hid (B3.out.trans (bb.mono B3.out.size))
  have H4 := Lib.hid (H3.out.below bb)
  clear bb
  go_wp2_with fail
  go_ret
  exact ⟨rfl, B4.out⟩
set_option maxHeartbeats 1000000 in
theorem put_e51 (i q b : Int) (w : World) (hi : hasL x.l i = true) (hp : hasL x.l q = true) (hq : (b != 0) = true) (hb : hasL x.l b = true) (hbi : (b == i) = false) (hpar : (parOf x.l b != q) = false) (h1 : (i == 1) = false) (ht : (tagOf x.l q).toList.isEmpty = false) (hv : P1.voidB (tagOf x.l q).data.toList = false) (hwf : WF x.d) (hin : inside x.l q i = true) (h : Dc w B p x) : Calls Tryz.prog 28 #[.pointer (some ⟨p, 0, none⟩), .int .i64 i, .int .i64 q, .int .i64 b] w fun e w' => e = .returned (.iface 97 (.int .i64 5)) ∧ Below w.heap.size w w' := by
  have B0 := Lib.hid (Below.refl w.heap.size w)
  have H0 := Lib.hid h
  obtain ⟨m, hm, hym, _⟩ := h.place hp
  obtain ⟨tg, htg⟩ : ∃ tg, x.rs[m].nd.tag = tg := ⟨_, rfl⟩
  have htag : tg = tagOf x.l q := by rw [(tag_at h hm hym).1, htg]
  obtain ⟨bm, hbm⟩ : ∃ bm, x.rs[m].b = bm := ⟨_, rfl⟩
  rw [← htag] at ht
  rw [← htag] at hv
  obtain ⟨j, hj, hyj, _⟩ := h.place hb
  obtain ⟨pb, hpb⟩ : ∃ pb, x.rs[j].nd.par = pb := ⟨_, rfl⟩
  rw [(tag_at h hj hyj).2.1, hpb] at hpar
  obtain ⟨bj, hbj⟩ : ∃ bj, x.rs[j].b = bj := ⟨_, rfl⟩
  have HI := Lib.hid hi
  have HP := Lib.hid hp
  have HB := Lib.hid hb
  have HYJ := Lib.hid hyj
  have HPB := Lib.hid hpb
  have HBJ := Lib.hid hbj
  have HYM := Lib.hid hym
  have HTG := Lib.hid htg
  have HBM := Lib.hid hbm
  have HV := Lib.hid hv
  have HWF := Lib.hid hwf
  have HIN := Lib.hid hin
  clear h hi hp hb hyj hpb hbj hym htg htag hbm hv hwf hin
  go_enter Tryz.func28, Tryz.ntmps28
  go_wp2_with fail
  refine (has_at i w HI.out H0.out).mono ?_
  rintro e w1 ⟨rfl, bb⟩
  have B1 := Lib.hid (B0.out.trans (bb.mono B0.out.size))
  have H1 := Lib.hid (H0.out.below bb)
  clear bb
  go_wp2_with fail
  refine (has_at q w1 HP.out H1.out).mono ?_
  rintro e w2 ⟨rfl, bb⟩
  have B2 := Lib.hid (B1.out.trans (bb.mono B1.out.size))
  have H2 := Lib.hid (H1.out.below bb)
  clear bb
  go_wp2_with fail
  refine (has_at b w2 HB.out H2.out).mono ?_
  rintro e w3 ⟨rfl, bb⟩
  have B3 := Lib.hid (B2.out.trans (bb.mono B2.out.size))
  have H3 := Lib.hid (H2.out.below bb)
  clear bb
  go_wp2_with fail
  refine (node_at q w3 hm HYM.out HBM.out H3.out).mono ?_
  rintro e w4 ⟨rfl, bb⟩
  have B4 := Lib.hid (B3.out.trans (bb.mono B3.out.size))
  have H4 := Lib.hid (H3.out.below bb)
  have d2 : w4.cell? ⟨bm, 2, none⟩ = some (.string tg) := by have := (H4.out.nd hm).c2; rwa [HBM.out, HTG.out] at this
  clear bb
  go_wp2_with fail
  refine (void_at tg w4 HV.out).mono ?_
  rintro e w' ⟨rfl, rfl⟩
  go_wp2_with fail
  refine (node_at b w4 hj HYJ.out HBJ.out H4.out).mono ?_
  rintro e w5 ⟨rfl, bb⟩
  have B5 := Lib.hid (B4.out.trans (bb.mono B4.out.size))
  have H5 := Lib.hid (H4.out.below bb)
  have d1 : w5.cell? ⟨bj, 1, none⟩ = some (.int .i64 pb) := by have := (H5.out.nd hj).c1; rwa [HBJ.out, HPB.out] at this
  clear bb
  go_wp2_with fail
  refine (inside_at q i w5 HIN.out HWF.out HP.out HI.out H5.out).mono ?_
  rintro e w6 ⟨rfl, bb⟩
  have B6 := Lib.hid (B5.out.trans (bb.mono B5.out.size))
  have H6 := Lib.hid (H5.out.below bb)
  clear bb
  go_wp2_with fail
  go_ret
  exact ⟨rfl, B6.out⟩
end Go.Proofs.YtihjdmdafiifhaaGreat.P5
