/- The reference: put, whole; Apply. -/
import Derived.Test.YtkagaobelhpojaaGreatM20
import Derived.Test.YtkagaobelhpojaaGreatM23
import Derived.Test.YtkagaobelhpojaaGreatM24
import Derived.Test.YtkagaobelhpojaaGreatM25
import Derived.Test.YtkagaobelhpojaaGreatM26
import Derived.Test.YtkagaobelhpojaaGreatM27
set_option linter.unusedVariables false
set_option linter.unusedSimpArgs false
namespace Go.Proofs.YtkagaobelhpojaaGreat.P5
open Go.RowKit Kd P4
variable {B q : Nat} {y : Rx}
theorem rput_any (r : Rc) (A : Option Addr) (n c : Nat) (w : World) (hwf : WF y.d) (h : Rf w B q y) : Calls Tryz.prog 56 #[.pointer (some ⟨q, 0, none⟩), .agg #[.int .i64 r.op, .int .i64 r.id, .int .i64 r.par, .int .i64 r.bef, .string r.tag, .string r.txt, .string r.key, .slice A n c]] w (RMade w B q y (putD y.d r.id r.par r.bef).1 (putD y.d r.id r.par r.bef).2) := by
  have hl : y.rs.length ≤ 1000 := by have := hwf.len200; rw [show y.d.l = y.l from rfl, rl_len] at this; omega
  by_cases h0 : putErr y.l r.id r.par r.bef = 0
  · have e : putD y.d r.id r.par r.bef = (0, { y.d with l := putL y.l r.id r.par r.bef }) := by unfold putD; rw [if_pos (show putErr y.d.l r.id r.par r.bef = 0 from h0)]; rfl
    rw [e]
    have hk := putErr_ok h0
    have h1 : (r.id == 1) = false := by simpa using hk.h1
    by_cases hb : r.bef = 0
    · exact rput_y0 r A n c w hwf.asc hl hk.hi hk.hp (by simpa using hb) h1 hwf hk.hk hk.hn hb h
    · obtain ⟨b1, b2, b3⟩ := hk.hb.resolve_left hb
      exact rput_y1 r A n c w hwf.asc hl hk.hi hk.hp (by simpa using hb) b1 h1 hwf hk.hk hk.hn hb (by simpa using b2) (by simpa using b3) h
  · have e : putD y.d r.id r.par r.bef = (putErr y.l r.id r.par r.bef, y.d) := by unfold putD; rw [if_neg (show ¬ putErr y.d.l r.id r.par r.bef = 0 from h0)]; rfl
    rw [e]
    exact rput_no r A n c w hwf.asc hl h0 h
set_option maxRecDepth 100000 in
set_option maxHeartbeats 1000000 in
theorem rapply_make (r : Rc) (A : Option Addr) (n c : Nat) (w : World) (hwf : WF y.d) (hn : y.n ≤ 100000) (h1 : r.tag.size ≤ maxLen) (h2 : r.txt.size ≤ maxLen) (h3 : r.key.size ≤ maxLen) (q1 : (r.op == 1) = true) (h : Rf w B q y) : Calls Tryz.prog 28 #[.pointer (some ⟨q, 0, none⟩), .agg #[.int .i64 r.op, .int .i64 r.id, .int .i64 r.par, .int .i64 r.bef, .string r.tag, .string r.txt, .string r.key, .slice A n c]] w (RMade w B q y (makeD y.d r).1 (makeD y.d r).2) := by
  have B1 : Hid (Below w.heap.size w (w.alloc (.cells #[.int .i64 r.op, .int .i64 r.id, .int .i64 r.par, .int .i64 r.bef, .string r.tag, .string r.txt, .string r.key, .slice A n c] 57))) := Lib.hid ((Below.refl _ _).alloc (Nat.le_refl _) _)
  have N1 : Hid (RcB (w.alloc (.cells #[.int .i64 r.op, .int .i64 r.id, .int .i64 r.par, .int .i64 r.bef, .string r.tag, .string r.txt, .string r.key, .slice A n c] 57)) w.heap.size r A n c) := Lib.hid (RcB.new w r A n c)
  have H0 := Lib.hid h
  have HWF := Lib.hid hwf
  clear h hwf
  go_enter Tryz.func28, Tryz.ntmps28
  go_upto_region 1 with fail
  generalize w.alloc (.cells #[.int .i64 r.op, .int .i64 r.id, .int .i64 r.par, .int .i64 r.bef, .string r.tag, .string r.txt, .string r.key, .slice A n c] 57) = W at B1 N1 ⊢
  have H := Lib.hid (H0.out.below B1.out)
  have b0 := N1.out.c0
  have b1 := N1.out.c1
  have b5 := N1.out.c5
  have b7 := N1.out.c7
  have b2 := N1.out.c2
  have b3 := N1.out.c3
  have b4 := N1.out.c4
  have b6 := N1.out.c6
  go_wp2_with fail
  refine (rmake_any r A n c W HWF.out hn h1 h2 h3 H.out).mono ?_
  rintro e w' ⟨rfl, y', d', e'⟩
  have D' := Lib.hid ((Rdid.below_ H0.out B1.out).trans d')
  have E' := Lib.hid e'
  clear d' e'
  go_wp2_with fail
  go_ret
  exact ⟨rfl, _, D'.out, E'.out⟩
set_option maxRecDepth 100000 in
set_option maxHeartbeats 1000000 in
theorem rapply_put (r : Rc) (A : Option Addr) (n c : Nat) (w : World) (hwf : WF y.d) (q1 : (r.op == 1) = false) (q2 : (r.op == 2) = true) (h : Rf w B q y) : Calls Tryz.prog 28 #[.pointer (some ⟨q, 0, none⟩), .agg #[.int .i64 r.op, .int .i64 r.id, .int .i64 r.par, .int .i64 r.bef, .string r.tag, .string r.txt, .string r.key, .slice A n c]] w (RMade w B q y (putD y.d r.id r.par r.bef).1 (putD y.d r.id r.par r.bef).2) := by
  have B1 : Hid (Below w.heap.size w (w.alloc (.cells #[.int .i64 r.op, .int .i64 r.id, .int .i64 r.par, .int .i64 r.bef, .string r.tag, .string r.txt, .string r.key, .slice A n c] 57))) := Lib.hid ((Below.refl _ _).alloc (Nat.le_refl _) _)
  have N1 : Hid (RcB (w.alloc (.cells #[.int .i64 r.op, .int .i64 r.id, .int .i64 r.par, .int .i64 r.bef, .string r.tag, .string r.txt, .string r.key, .slice A n c] 57)) w.heap.size r A n c) := Lib.hid (RcB.new w r A n c)
  have H0 := Lib.hid h
  have HWF := Lib.hid hwf
  clear h hwf
  go_enter Tryz.func28, Tryz.ntmps28
  go_upto_region 1 with fail
  generalize w.alloc (.cells #[.int .i64 r.op, .int .i64 r.id, .int .i64 r.par, .int .i64 r.bef, .string r.tag, .string r.txt, .string r.key, .slice A n c] 57) = W at B1 N1 ⊢
  have H := Lib.hid (H0.out.below B1.out)
  have b0 := N1.out.c0
  have b1 := N1.out.c1
  have b5 := N1.out.c5
  have b7 := N1.out.c7
  have b2 := N1.out.c2
  have b3 := N1.out.c3
  have b4 := N1.out.c4
  have b6 := N1.out.c6
  go_wp2_with fail
  refine (rput_any r A n c W HWF.out H.out).mono ?_
  rintro e w' ⟨rfl, y', d', e'⟩
  have D' := Lib.hid ((Rdid.below_ H0.out B1.out).trans d')
  have E' := Lib.hid e'
  clear d' e'
  go_wp2_with fail
  go_ret
  exact ⟨rfl, _, D'.out, E'.out⟩
set_option maxRecDepth 100000 in
set_option maxHeartbeats 1000000 in
theorem rapply_gone (r : Rc) (A : Option Addr) (n c : Nat) (w : World) (hwf : WF y.d) (q1 : (r.op == 1) = false) (q2 : (r.op == 2) = false) (q3 : (r.op == 3) = true) (h : Rf w B q y) : Calls Tryz.prog 28 #[.pointer (some ⟨q, 0, none⟩), .agg #[.int .i64 r.op, .int .i64 r.id, .int .i64 r.par, .int .i64 r.bef, .string r.tag, .string r.txt, .string r.key, .slice A n c]] w (RMade w B q y (goneD y.d r.id).1 (goneD y.d r.id).2) := by
  have B1 : Hid (Below w.heap.size w (w.alloc (.cells #[.int .i64 r.op, .int .i64 r.id, .int .i64 r.par, .int .i64 r.bef, .string r.tag, .string r.txt, .string r.key, .slice A n c] 57))) := Lib.hid ((Below.refl _ _).alloc (Nat.le_refl _) _)
  have N1 : Hid (RcB (w.alloc (.cells #[.int .i64 r.op, .int .i64 r.id, .int .i64 r.par, .int .i64 r.bef, .string r.tag, .string r.txt, .string r.key, .slice A n c] 57)) w.heap.size r A n c) := Lib.hid (RcB.new w r A n c)
  have H0 := Lib.hid h
  have HWF := Lib.hid hwf
  clear h hwf
  go_enter Tryz.func28, Tryz.ntmps28
  go_upto_region 1 with fail
  generalize w.alloc (.cells #[.int .i64 r.op, .int .i64 r.id, .int .i64 r.par, .int .i64 r.bef, .string r.tag, .string r.txt, .string r.key, .slice A n c] 57) = W at B1 N1 ⊢
  have H := Lib.hid (H0.out.below B1.out)
  have b0 := N1.out.c0
  have b1 := N1.out.c1
  have b5 := N1.out.c5
  have b7 := N1.out.c7
  have b2 := N1.out.c2
  have b3 := N1.out.c3
  have b4 := N1.out.c4
  have b6 := N1.out.c6
  go_wp2_with fail
  refine (rgone_any r.id W HWF.out H.out).mono ?_
  rintro e w' ⟨rfl, y', d', e'⟩
  have D' := Lib.hid ((Rdid.below_ H0.out B1.out).trans d')
  have E' := Lib.hid e'
  clear d' e'
  go_wp2_with fail
  go_ret
  exact ⟨rfl, _, D'.out, E'.out⟩
theorem rapply_any (r : Rc) (A : Option Addr) (n c : Nat) (w : World) (hwf : WF y.d) (hn : y.n ≤ 100000) (h1 : r.tag.size ≤ maxLen) (h2 : r.txt.size ≤ maxLen) (h3 : r.key.size ≤ maxLen) (ht : ArgA w A n c r.attrs) (h : Rf w B q y) : Calls Tryz.prog 28 #[.pointer (some ⟨q, 0, none⟩), .agg #[.int .i64 r.op, .int .i64 r.id, .int .i64 r.par, .int .i64 r.bef, .string r.tag, .string r.txt, .string r.key, .slice A n c]] w (RMade w B q y (applyD y.d r).1 (applyD y.d r).2) := by
  have hl : y.rs.length ≤ 1000 := by have := hwf.len200; rw [show y.d.l = y.l from rfl, rl_len] at this; omega
  unfold applyD
  by_cases e1 : r.op = 1
  · rw [if_pos e1]
    exact rapply_make r A n c w hwf hn h1 h2 h3 (by simpa using e1) h
  rw [if_neg e1]
  by_cases e2 : r.op = 2
  · rw [if_pos e2]
    exact rapply_put r A n c w hwf (by simpa using e1) (by simpa using e2) h
  rw [if_neg e2]
  by_cases e3 : r.op = 3
  · rw [if_pos e3]
    exact rapply_gone r A n c w hwf (by simpa using e1) (by simpa using e2) (by simpa using e3) h
  rw [if_neg e3]
  by_cases e4 : r.op = 4
  · rw [if_pos e4]
    exact rapply_attrs r A n c w hwf.asc hl ht (by simpa using e1) (by simpa using e2) (by simpa using e3) (by simpa using e4) (by simpa using e4) h
  rw [if_neg e4]
  by_cases e5 : r.op = 5
  · rw [if_pos e5]
    exact rapply_data r A n c w hwf.asc hl h2 (by simpa using e1) (by simpa using e2) (by simpa using e3) (by simpa using e4) (by simpa using e5) (by simpa using e4) h
  rw [if_neg e5]
  exact rapply_none r A n c w (by simpa using e1) (by simpa using e2) (by simpa using e3) (by simpa using e4) (by simpa using e5) h
end Go.Proofs.YtkagaobelhpojaaGreat.P5

/- The reference: two nodes that are the same, are told so. -/
namespace Go.Proofs.YtkagaobelhpojaaGreat.P5
open Go.RowKit Kd P4

theorem sameA_refl : ∀ l : List P3.At, P3.sameA l l = true
  | [] => rfl
  | a :: l => by rw [P3.sameA, P3.atB_refl, sameA_refl l]; rfl
set_option maxHeartbeats 1000000 in
theorem ints_eq (l : List Int) (A A' : Option Addr) (n c c' : Nat) (w : World) (hn : l.length = n) (hl : n ≤ 1000) (h1 : kI.Holds w w.heap.size A l) (h2 : kI.Holds w w.heap.size A' l) :
    Calls Tryz.prog 69 #[.slice A n c, .slice A' n c'] w fun e w' => e = .returned (.bool true) ∧ Below w.heap.size w w' := by
  have H1 := Lib.hid h1
  have H2 := Lib.hid h2
  have HN := Lib.hid hn
  clear h1 h2 hn
  go_enter Tryz.func69, Tryz.ntmps69
  go_wp2_with fail
  go_loopw [5] (fun s wr => ∃ j : Nat, j ≤ n ∧ s = .int .i64 j ∧ Hid (Below w.heap.size w wr)) (fun s _ => n - (intOf s).toNat)
  case atStart => exact ⟨0, by omega, rfl, Lib.hid (Below.refl _ _)⟩
  case round =>
    obtain ⟨j, hj, rfl, HW⟩ := hrel
    by_cases hjn : j < n
    · have hjl : j < l.length := by have := HN.out; omega
      obtain ⟨gb, go, rfl, _, hc⟩ := cell_int (H1.out.on HW.out) hjl
      obtain ⟨gb', go', rfl, _, hc'⟩ := cell_int (H2.out.on HW.out) hjl
      generalize l[j] = kd at hc hc'
      go_wp2_with fail
      go_quiet (fail)
      go_wp2_with fail
      go_roundw
      case rel => exact ⟨j + 1, by omega, by go_num, Lib.hid (Below_drewN HW.out _)⟩
      case measure => simp [intOf]; omega
    · go_wp2_with fail
      go_ret
      exact ⟨rfl, HW.out⟩
set_option maxHeartbeats 1000000 in
theorem rnode_eq (m : Nd) (A A2 A' A2' : Option Addr) (n c n2 c2 c' c2' : Nat) (w : World) (hn : m.attrs.length = n) (hn2 : m.kids.length = n2) (hl : n ≤ 1000) (hl2 : n2 ≤ 1000)
    (h1 : kA.Holds w w.heap.size A m.attrs) (h2 : kI.Holds w w.heap.size A2 m.kids) (h3 : kA.Holds w w.heap.size A' m.attrs) (h4 : kI.Holds w w.heap.size A2' m.kids) :
    Calls Tryz.prog 42 #[.agg #[.int .i64 m.id, .int .i64 m.par, .string m.tag, .string m.txt, .string m.key, .slice A n c, .slice A2 n2 c2, .int .i64 m.note], .agg #[.int .i64 m.id, .int .i64 m.par, .string m.tag, .string m.txt, .string m.key, .slice A' n c', .slice A2' n2 c2', .int .i64 m.note]] w fun e w' => e = .returned (.bool true) ∧ Below w.heap.size w w' := by
  have B1 : Hid (Below w.heap.size w ((w.alloc (.cells #[.int .i64 m.id, .int .i64 m.par, .string m.tag, .string m.txt, .string m.key, .slice A n c, .slice A2 n2 c2, .int .i64 m.note] 81)).alloc (.cells #[.int .i64 m.id, .int .i64 m.par, .string m.tag, .string m.txt, .string m.key, .slice A' n c', .slice A2' n2 c2', .int .i64 m.note] 81))) := Lib.hid (((Below.refl _ _).alloc (Nat.le_refl _) _).alloc (by simp) _)
  have M1 : Hid (NdB ((w.alloc (.cells #[.int .i64 m.id, .int .i64 m.par, .string m.tag, .string m.txt, .string m.key, .slice A n c, .slice A2 n2 c2, .int .i64 m.note] 81)).alloc (.cells #[.int .i64 m.id, .int .i64 m.par, .string m.tag, .string m.txt, .string m.key, .slice A' n c', .slice A2' n2 c2', .int .i64 m.note] 81)) w.heap.size m A n c A2 n2 c2) := Lib.hid (heap_up (NdB.new w m A n c A2 n2 c2))
  have M2 : Hid (NdB ((w.alloc (.cells #[.int .i64 m.id, .int .i64 m.par, .string m.tag, .string m.txt, .string m.key, .slice A n c, .slice A2 n2 c2, .int .i64 m.note] 81)).alloc (.cells #[.int .i64 m.id, .int .i64 m.par, .string m.tag, .string m.txt, .string m.key, .slice A' n c', .slice A2' n2 c2', .int .i64 m.note] 81)) (w.heap.size + 1) m A' n c' A2' n2 c2') := Lib.hid (heap_top (by simp))
  have H1 := Lib.hid h1
  have H2 := Lib.hid h2
  have H3 := Lib.hid h3
  have H4 := Lib.hid h4
  have HN := Lib.hid hn
  have HN2 := Lib.hid hn2
  clear h1 h2 h3 h4 hn hn2
  go_enter Tryz.func42, Tryz.ntmps42
  go_upto_region 1 with fail
  generalize (w.alloc (.cells #[.int .i64 m.id, .int .i64 m.par, .string m.tag, .string m.txt, .string m.key, .slice A n c, .slice A2 n2 c2, .int .i64 m.note] 81)).alloc (.cells #[.int .i64 m.id, .int .i64 m.par, .string m.tag, .string m.txt, .string m.key, .slice A' n c', .slice A2' n2 c2', .int .i64 m.note] 81) = W at B1 M1 M2 ⊢
  have a5 := M1.out.c5
  have a6 := M1.out.c6
  have b5 := M2.out.c5
  have b6 := M2.out.c6
  go_wp2_with fail
  refine (ints_eq m.kids A2 A2' n2 c2 c2' W HN2.out hl2 (H2.out.on B1.out) (H4.out.on B1.out)).mono ?_
  rintro e w2 ⟨rfl, b2⟩
  have B2 := Lib.hid (B1.out.trans (b2.mono B1.out.size))
  have M3 := Lib.hid (M1.out.below b2 M1.out.lt)
  have M4 := Lib.hid (M2.out.below b2 M2.out.lt)
  clear b2 a5 a6 b5 b6 M1 M2
  have a5 := M3.out.c5
  have b5 := M4.out.c5
  go_wp2_with fail
  refine (P3.rsame_any m.attrs m.attrs A A' n n c c' w2 HN.out HN.out (by omega) (by omega) (p3holds (H1.out.on B2.out)) (p3holds (H3.out.on B2.out))).mono ?_
  rintro e w3 ⟨rfl, b3⟩
  rw [sameA_refl]
  have B3 := Lib.hid (B2.out.trans (b3.mono B2.out.size))
  have M5 := Lib.hid (M3.out.below b3 M3.out.lt)
  have M6 := Lib.hid (M4.out.below b3 M4.out.lt)
  clear b3 a5 b5 M3 M4
  have a0 := M5.out.c0
  have a1 := M5.out.c1
  have a2 := M5.out.c2
  have a3 := M5.out.c3
  have a4 := M5.out.c4
  have a7 := M5.out.c7
  have b0 := M6.out.c0
  have b1 := M6.out.c1
  have b2 := M6.out.c2
  have b3 := M6.out.c3
  have b4 := M6.out.c4
  have b7 := M6.out.c7
  go_wp2_with fail
  go_ret
  exact ⟨rfl, B3.out⟩
end Go.Proofs.YtkagaobelhpojaaGreat.P5

/- Same documents are told so. -/
namespace Go.Proofs.YtkagaobelhpojaaGreat.P5
open Go.RowKit Kd P4
variable {B p q : Nat} {x : Dx} {y : Rx}
set_option maxHeartbeats 1000000 in
theorem free_q {m : Nat} (w : World) (hm : x.rs.length = m) (h : Dc w B p x) : Calls Tryz.prog 39 #[.pointer (some ⟨p, 0, none⟩)] w fun e w' => e = .returned (.int .i64 ((x.R : Int) - m)) ∧ ∃ j, w' = w.drewN j := by
  have H := Lib.hid h
  have HM := Lib.hid hm
  have c0 := h.c0
  have hl : m ≤ x.R := by have := h.ar.len; simp at this; omega
  have hR := h.ar.room
  have Q1 : Hid (∀ n, Calls Tryz.prog 65 #[.pointer (some ⟨x.a, 0, none⟩)] (w.drewN n) fun e w' => e = .returned (.int .i64 x.R) ∧ ∃ k, w' = w.drewN k) :=
    Lib.hid (fun n => (roomP_any (w.drewN n) (H.out.drewN n).ar).mono fun _ _ ⟨he, hw⟩ => ⟨he, n, hw.symm⟩)
  have Q2 : Hid (∀ n, Calls Tryz.prog 66 #[.pointer (some ⟨x.a, 0, none⟩)] (w.drewN n) fun e w' => e = .returned (.int .i64 m) ∧ ∃ k, w' = w.drewN k) :=
    Lib.hid (fun n => (liveP_any (w.drewN n) (by simp [HM.out]) (H.out.drewN n).ar).mono fun _ _ ⟨he, hw⟩ => ⟨he, n, hw.symm⟩)
  clear h hm
  go_enter Tryz.func39, Tryz.ntmps39
  go_wp2_with fail
  go_quiet ((first | (go_at_call 65; exact Q1.out _) | (go_at_call 66; exact Q2.out _)))
  go_wp2_with fail
  go_ret
  exact ⟨ret_int (by first | rfl | (rw [IntKind.wrap_i64]; omega)), _, rfl⟩
theorem drewN_drewN (w : World) (k j : Nat) : (w.drewN k).drewN j = w.drewN (k + j) := by simp [World.drewN, Nat.add_assoc]
theorem free_quiet {m : Nat} (w : World) (hm : x.rs.length = m) (h : Dc w B p x) (k : Nat) : Calls Tryz.prog 39 #[.pointer (some ⟨p, 0, none⟩)] (w.drewN k) fun e w' => e = .returned (.int .i64 ((x.R : Int) - m)) ∧ ∃ j, w' = w.drewN j :=
  (free_q (w.drewN k) hm (h.drewN k)).mono fun _ _ ⟨he, j, hw⟩ => ⟨he, k + j, hw.trans (drewN_drewN w k j)⟩
set_option maxHeartbeats 4000000 in
theorem same_any (w : World) (hwf : WF x.d) (hn : x.n ≤ 100000) (hd : x.d = y.d) (h : Dc w B p x) (k : Rf w B q y) : Calls Tryz.prog 15 #[.pointer (some ⟨p, 0, none⟩), .pointer (some ⟨q, 0, none⟩)] w fun e w' => e = .returned (.int .i64 1) ∧ Below w.heap.size w w' := by
  have H := Lib.hid h
  have K := Lib.hid k
  have HWF := Lib.hid hwf
  have HL : Hid (x.l = y.l) := Lib.hid (congrArg D.l hd)
  obtain ⟨nn, hnn⟩ : ∃ nn, x.n = nn := ⟨_, rfl⟩
  obtain ⟨foc, hfoc⟩ : ∃ f, x.foc = f := ⟨_, rfl⟩
  obtain ⟨R, hR⟩ : ∃ R, x.R = R := ⟨_, rfl⟩
  obtain ⟨nl, hnl⟩ : ∃ n, x.rs.length = n := ⟨_, rfl⟩
  have HNN := Lib.hid hnn
  have HFO := Lib.hid hfoc
  have HRR := Lib.hid hR
  have HNL := Lib.hid hnl
  have HNY : Hid (y.rs.length = nl) := Lib.hid (by rw [← hnl, ← rl_len, ← l_len, HL.out])
  have hyn : y.n = nn := by rw [← hnn]; exact (congrArg D.n hd).symm
  have hyR : y.R = R := by rw [← hR]; exact (congrArg D.R hd).symm
  have hyf : y.foc = foc := by rw [← hfoc]; exact (congrArg D.foc hd).symm
  have HYN := Lib.hid hyn
  have HYR := Lib.hid hyR
  have HYF := Lib.hid hyf
  have hnl2 : nl ≤ 200 := by have h1 := h.ar.len; have h2 := h.ar.room; rw [List.length_map] at h1; omega
  have hnn2 : nn ≤ 100000 := by omega
  have hnn0 : 1 ≤ nn := by rw [← hnn]; exact hwf.n0
  have hR2 : R ≤ 200 := by rw [← hR]; exact hwf.room
  clear h k hwf hd hn hnn hfoc hR hnl hyn hyR hyf
  go_enter Tryz.func15, Tryz.ntmps15
  go_wp2_with fail
  refine (ids_any w (by have := HNL.out; omega) H.out).mono ?_
  rintro e w1 ⟨A1, n1, c1, rfl, o1, b1⟩
  obtain ⟨g1, g2, g3, g4, g5⟩ := own_nil_zero o1 rfl
  obtain rfl : n1 = nl := by rw [← g1, ← HNL.out]; simp [idsOf, Dx.l]
  have HK := Lib.hid g5
  have B1 := Lib.hid b1
  have H1 := Lib.hid (H.out.below b1)
  have K1 := Lib.hid (K.out.below b1)
  obtain ⟨AL, cL, hv, hcl, hcm, hz, hh⟩ := K1.out.slice
  have d0 := K1.out.c0
  have d1 := K1.out.c1
  have d2 := K1.out.c2
  have d3 := K1.out.c3
  rw [hv, HNY.out] at d0
  rw [HYN.out] at d1
  rw [HYR.out] at d2
  rw [HYF.out] at d3
  have HH := Lib.hid hh
  have QN : Hid (∀ k, Calls Tryz.prog 38 #[.pointer (some ⟨p, 0, none⟩)] (w1.drewN k) fun e w' => e = .returned (.int .i64 (nn + 1)) ∧ ∃ m, w' = w1.drewN m) := Lib.hid (fun k => (next_any _ (by rw [HNN.out]; exact hnn2) (by rw [HNN.out]) (H1.out.drewN k)).mono fun _ _ ⟨he, hw⟩ => ⟨he, k, hw.symm⟩)
  have QF : Hid (∀ k, Calls Tryz.prog 40 #[.pointer (some ⟨p, 0, none⟩)] (w1.drewN k) fun e w' => e = .returned (.int .i64 foc) ∧ ∃ m, w' = w1.drewN m) := Lib.hid (fun k => (focus_any _ (H1.out.drewN k)).mono fun _ _ ⟨he, hw⟩ => ⟨by rw [← HFO.out]; exact he, k, hw.symm⟩)
  have QE : Hid (∀ k, Calls Tryz.prog 39 #[.pointer (some ⟨p, 0, none⟩)] (w1.drewN k) fun e w' => e = .returned (.int .i64 ((R : Int) - n1)) ∧ ∃ m, w' = w1.drewN m) := Lib.hid (fun k => by have := free_quiet w1 HNL.out H1.out k; rw [HRR.out] at this; exact this)
  clear o1 b1 g1 g2 g3 g4 g5 hv hh hcm hz
  rw [HNY.out] at hcl
  go_wp2_with fail
  go_quiet ((first | (go_at_call 38; exact QN.out _) | (go_at_call 40; exact QF.out _) | (go_at_call 39; exact QE.out _)))
  clear d0 d1 d2 d3
  have B2 := Lib.hid (Below_drewN (Below.refl w1.heap.size w1) nq)
  go_wp2_with fail
  go_loopw [6] (fun s6 wr => ∃ j : Nat, j ≤ n1 ∧ s6 = .int .i64 j ∧ Hid (Below w1.heap.size w1 wr)) (fun s6 _ => n1 - (intOf s6).toNat)
  case atStart => exact ⟨0, by omega, rfl, B2⟩
  case round =>
    obtain ⟨j, hj, rfl, HB⟩ := hrel
    have HR := Lib.hid (H1.out.below HB.out)
    have KR := Lib.hid (K1.out.below HB.out)
    have hzr := HB.out.size
    by_cases hlt : j < n1
    · have hjl : j < x.rs.length := by have := HNL.out; omega
      have hjy : j < y.rs.length := by have := HNY.out; omega
      obtain ⟨ib, io, rfl, hib, hic⟩ := cell_int HK.out (k := j) (by simp [idsOf, Dx.l]; exact hjl)
      obtain ⟨nd, hnd⟩ : ∃ nd, x.rs[j].nd = nd := ⟨_, rfl⟩
      have hidk : (idsOf x.l)[j]'(by simp [idsOf, Dx.l]; exact hjl) = nd.id := by rw [← hnd]; simp [idsOf, Dx.l]
      rw [hidk] at hic
      have hic2 : wr.cell? ⟨ib, io + j, none⟩ = some (.int .i64 nd.id) := (HB.out.cell (p := ⟨ib, _, none⟩) hib).trans hic
      have HIC := Lib.hid hic
      obtain ⟨f1, f2, f3, f4, f5, f6, f7⟩ := nd_kids HR.out HWF.out hjl
      rw [hnd] at f1 f2
      have HND := Lib.hid hnd
      have HYD : Hid (y.rs[j].nd = nd) := Lib.hid (by
        have e : x.l[j]'(by rw [l_len]; exact hjl) = y.l[j]'(by rw [rl_len]; exact hjy) := by
          have := HL.out
          congr 1
        rw [← hnd]
        simp only [Dx.l, Rx.l, List.getElem_map] at e
        exact e.symm)
      clear f3 f4 f5 f6 f7 hnd hidk hic
      go_wp2_with fail
      refine (tell_yes nd.id (k := j) (nd := nd) wr hjl (by rw [HND.out]) HND.out f1 f2 HR.out).mono ?_
      rintro e w7 ⟨A7, n7, c7, A8, n8, c8, rfl, ha, ho, b7⟩
      have B7 := Lib.hid (HB.out.trans (b7.mono hzr))
      have AH := Lib.hid (ha.below ((Below.refl _ _).alloc (Nat.le_refl _) (.cells #[.int .i64 nd.id, .int .i64 nd.par, .string nd.tag, .string nd.txt, .string nd.key, .slice A7 n7 c7, .slice A8 n8 c8, .int .i64 nd.note] 81)))
      have OH := Lib.hid (ho.alloc (.cells #[.int .i64 nd.id, .int .i64 nd.par, .string nd.tag, .string nd.txt, .string nd.key, .slice A7 n7 c7, .slice A8 n8 c8, .int .i64 nd.note] 81))
      have N7 : Hid (NdB (w7.alloc (.cells #[.int .i64 nd.id, .int .i64 nd.par, .string nd.tag, .string nd.txt, .string nd.key, .slice A7 n7 c7, .slice A8 n8 c8, .int .i64 nd.note] 81)) w7.heap.size nd A7 n7 c7 A8 n8 c8) := Lib.hid (NdB.new _ _ _ _ _ _ _ _)
      have B8 : Hid (Below w1.heap.size w1 (w7.alloc (.cells #[.int .i64 nd.id, .int .i64 nd.par, .string nd.tag, .string nd.txt, .string nd.key, .slice A7 n7 c7, .slice A8 n8 c8, .int .i64 nd.note] 81))) := Lib.hid (B7.out.alloc B7.out.size _)
      clear ha ho b7 hic2
      go_upto_region 8 with fail
      generalize w7.alloc (.cells #[.int .i64 nd.id, .int .i64 nd.par, .string nd.tag, .string nd.txt, .string nd.key, .slice A7 n7 c7, .slice A8 n8 c8, .int .i64 nd.note] 81) = w8 at AH OH N7 B8 ⊢
      have K8 := Lib.hid (K1.out.below B8.out)
      obtain ⟨b, o, cl, Ay, ny, cy, A2y, n2y, c2y, hv, hcl2, hb, e0, L, hva, hvk⟩ := K8.out.lies hjy
      rw [HNY.out] at e0 hcl2
      rw [HYD.out] at L
      have l0 := L.c0
      have ic := (B8.out.cell (p := ⟨ib, _, none⟩) hib).trans HIC.out
      go_wp2_with fail
      go_quiet (fail)
      have B9 := Lib.hid (Below_drewN B8.out nq)
      have e0' : (w8.drewN nq).cell? ⟨q, 0, none⟩ = some (.slice (some ⟨b, o, none⟩) n1 cl) := e0
      have l0' : (w8.drewN nq).cell? ⟨b, o + j * 8, none⟩ = some (.int .i64 nd.id) := L.c0
      have l1' : (w8.drewN nq).cell? ⟨b, o + j * 8 + 1, none⟩ = some (.int .i64 nd.par) := L.c1
      have l2' : (w8.drewN nq).cell? ⟨b, o + j * 8 + 2, none⟩ = some (.string nd.tag) := L.c2
      have l3' : (w8.drewN nq).cell? ⟨b, o + j * 8 + 3, none⟩ = some (.string nd.txt) := L.c3
      have l4' : (w8.drewN nq).cell? ⟨b, o + j * 8 + 4, none⟩ = some (.string nd.key) := L.c4
      have l5' : (w8.drewN nq).cell? ⟨b, o + j * 8 + 5, none⟩ = some (.slice Ay ny cy) := L.c5
      have l6' : (w8.drewN nq).cell? ⟨b, o + j * 8 + 6, none⟩ = some (.slice A2y n2y c2y) := L.c6
      have l7' : (w8.drewN nq).cell? ⟨b, o + j * 8 + 7, none⟩ = some (.int .i64 nd.note) := L.c7
      have N9 : Hid (NdB (w8.drewN nq) w7.heap.size nd A7 n7 c7 A8 n8 c8) := Lib.hid N7.out
      have AH9 := Lib.hid (AH.out.drewN nq)
      have OH9 := Lib.hid (OH.out.drewN nq)
      have AY9 : Hid (AOk (w8.drewN nq) ⟨Ay, ny, cy⟩ nd.attrs) := Lib.hid (by have := (K8.out.nodes _ (List.getElem_mem hjy)).att; rw [hva, HYD.out] at this; exact this.drewN nq)
      have KY9 : Hid (kI.Own (w8.drewN nq) B (.slice A2y n2y c2y) nd.kids) := Lib.hid (by have := (K8.out.nodes _ (List.getElem_mem hjy)).kids; rw [hvk, HYD.out] at this; exact this.drewN nq)
      clear l0 ic e0 L hv hb hva hvk
      generalize w8.drewN nq = w9 at B9 e0' l0' l1' l2' l3' l4' l5' l6' l7' N9 AH9 OH9 AY9 KY9 ⊢
      have a0 := N9.out.c0
      have a1 := N9.out.c1
      have a2 := N9.out.c2
      have a3 := N9.out.c3
      have a4 := N9.out.c4
      have a5 := N9.out.c5
      have a6 := N9.out.c6
      have a7 := N9.out.c7
      obtain ⟨p1, p2, p3, p4, p5⟩ := own_nil_zero OH9.out rfl
      obtain ⟨r1, r2, r3, r4, r5⟩ := own_nil_zero KY9.out rfl
      obtain rfl : n2y = n8 := by rw [← r1]; exact p1
      have t1 := AH9.out.len
      have t2 := AY9.out.len
      simp only at t1 t2
      obtain rfl : ny = n7 := by rw [← t2]; exact t1
      have hn7 : ny ≤ 1000 := by omega
      have hn8 : n2y ≤ 1000 := by omega
      have P1 := Lib.hid p1
      have P5 := Lib.hid p5
      have R5 := Lib.hid r5
      have T1 := Lib.hid t1
      have hqy : q < w9.heap.size := by have := heap_lt K8.out.blk; have := B9.out.size; have := heap_lt K1.out.blk; omega
      clear p1 p2 p3 p4 p5 r1 r2 r3 r4 r5 t1 t2
      have hb9 : b < w9.heap.size := World.block_lt_of_cell? w9 ⟨b, o + j * 8, none⟩ l0'
      have hw79 : w7.heap.size < w9.heap.size := N9.out.lt
      have SKEEP : Hid (∀ w', Below w9.heap.size w9 w' → (w'.cell? ⟨w7.heap.size, 0, none⟩ = some (.int .i64 nd.id) ∧ w'.cell? ⟨w7.heap.size, 1, none⟩ = some (.int .i64 nd.par) ∧ w'.cell? ⟨w7.heap.size, 2, none⟩ = some (.string nd.tag) ∧ w'.cell? ⟨w7.heap.size, 3, none⟩ = some (.string nd.txt) ∧ w'.cell? ⟨w7.heap.size, 4, none⟩ = some (.string nd.key) ∧ w'.cell? ⟨w7.heap.size, 5, none⟩ = some (.slice A7 ny c7) ∧ w'.cell? ⟨w7.heap.size, 6, none⟩ = some (.slice A8 n2y c8) ∧ w'.cell? ⟨w7.heap.size, 7, none⟩ = some (.int .i64 nd.note) ∧ w'.cell? ⟨q, 0, none⟩ = some (.slice (some ⟨b, o, none⟩) n1 cl) ∧ w'.cell? ⟨b, o + j * 8, none⟩ = some (.int .i64 nd.id) ∧ w'.cell? ⟨b, o + j * 8 + 1, none⟩ = some (.int .i64 nd.par) ∧ w'.cell? ⟨b, o + j * 8 + 2, none⟩ = some (.string nd.tag) ∧ w'.cell? ⟨b, o + j * 8 + 3, none⟩ = some (.string nd.txt) ∧ w'.cell? ⟨b, o + j * 8 + 4, none⟩ = some (.string nd.key) ∧ w'.cell? ⟨b, o + j * 8 + 5, none⟩ = some (.slice Ay ny cy) ∧ w'.cell? ⟨b, o + j * 8 + 6, none⟩ = some (.slice A2y n2y c2y) ∧ w'.cell? ⟨b, o + j * 8 + 7, none⟩ = some (.int .i64 nd.note))) := Lib.hid (fun w' hb' => ⟨(hb'.cell (p := ⟨w7.heap.size, 0, none⟩) hw79).trans a0, (hb'.cell (p := ⟨w7.heap.size, 1, none⟩) hw79).trans a1, (hb'.cell (p := ⟨w7.heap.size, 2, none⟩) hw79).trans a2, (hb'.cell (p := ⟨w7.heap.size, 3, none⟩) hw79).trans a3, (hb'.cell (p := ⟨w7.heap.size, 4, none⟩) hw79).trans a4, (hb'.cell (p := ⟨w7.heap.size, 5, none⟩) hw79).trans a5, (hb'.cell (p := ⟨w7.heap.size, 6, none⟩) hw79).trans a6, (hb'.cell (p := ⟨w7.heap.size, 7, none⟩) hw79).trans a7, (hb'.cell (p := ⟨q, 0, none⟩) hqy).trans e0', (hb'.cell (p := ⟨b, o + j * 8, none⟩) hb9).trans l0', (hb'.cell (p := ⟨b, o + j * 8 + 1, none⟩) hb9).trans l1', (hb'.cell (p := ⟨b, o + j * 8 + 2, none⟩) hb9).trans l2', (hb'.cell (p := ⟨b, o + j * 8 + 3, none⟩) hb9).trans l3', (hb'.cell (p := ⟨b, o + j * 8 + 4, none⟩) hb9).trans l4', (hb'.cell (p := ⟨b, o + j * 8 + 5, none⟩) hb9).trans l5', (hb'.cell (p := ⟨b, o + j * 8 + 6, none⟩) hb9).trans l6', (hb'.cell (p := ⟨b, o + j * 8 + 7, none⟩) hb9).trans l7'⟩)
      go_wp2_with fail
      have QS : Hid (∀ k, Calls Tryz.prog 42 #[.agg #[.int .i64 nd.id, .int .i64 nd.par, .string nd.tag, .string nd.txt, .string nd.key, .slice A7 ny c7, .slice A8 n2y c8, .int .i64 nd.note], .agg #[.int .i64 nd.id, .int .i64 nd.par, .string nd.tag, .string nd.txt, .string nd.key, .slice Ay ny cy, .slice A2y n2y c2y, .int .i64 nd.note]] (w9.drewN k) fun e w' => e = .returned (.bool true) ∧ Below (w9.drewN k).heap.size (w9.drewN k) w') := Lib.hid (fun k => rnode_eq nd A7 A8 Ay A2y ny c7 n2y c8 cy c2y (w9.drewN k) T1.out P1.out hn7 hn8 (AH9.out.drewN k).holds P5.out (AY9.out.drewN k).holds R5.out)
      go_region_held3 (fun w' => w'.cell? ⟨w7.heap.size, 0, none⟩ = some (.int .i64 nd.id) ∧ w'.cell? ⟨w7.heap.size, 1, none⟩ = some (.int .i64 nd.par) ∧ w'.cell? ⟨w7.heap.size, 2, none⟩ = some (.string nd.tag) ∧ w'.cell? ⟨w7.heap.size, 3, none⟩ = some (.string nd.txt) ∧ w'.cell? ⟨w7.heap.size, 4, none⟩ = some (.string nd.key) ∧ w'.cell? ⟨w7.heap.size, 5, none⟩ = some (.slice A7 ny c7) ∧ w'.cell? ⟨w7.heap.size, 6, none⟩ = some (.slice A8 n2y c8) ∧ w'.cell? ⟨w7.heap.size, 7, none⟩ = some (.int .i64 nd.note) ∧
          w'.cell? ⟨q, 0, none⟩ = some (.slice (some ⟨b, o, none⟩) n1 cl) ∧ w'.cell? ⟨b, o + j * 8, none⟩ = some (.int .i64 nd.id) ∧ w'.cell? ⟨b, o + j * 8 + 1, none⟩ = some (.int .i64 nd.par) ∧ w'.cell? ⟨b, o + j * 8 + 2, none⟩ = some (.string nd.tag) ∧ w'.cell? ⟨b, o + j * 8 + 3, none⟩ = some (.string nd.txt) ∧ w'.cell? ⟨b, o + j * 8 + 4, none⟩ = some (.string nd.key) ∧ w'.cell? ⟨b, o + j * 8 + 5, none⟩ = some (.slice Ay ny cy) ∧ w'.cell? ⟨b, o + j * 8 + 6, none⟩ = some (.slice A2y n2y c2y) ∧ w'.cell? ⟨b, o + j * 8 + 7, none⟩ = some (.int .i64 nd.note))
        (first | go_keep | exact SK) ((first
        | (go_at_call 42; refine (QS.out _).mono ?_; rintro e w10 ⟨rfl, b10⟩; have B10 : Hid (Below w9.heap.size w9 w10) := Lib.hid ((Below_drewN (Below.refl _ w9) _).trans b10); have SK := SKEEP.out w10 B10.out; clear b10)
        | fail))
      have B11 := Lib.hid (B9.out.trans (B10.out.mono B9.out.size))
      go_wp2_with fail
      go_roundw
      case rel => exact ⟨j + 1, by omega, by go_num, B11⟩
      case measure => simp [intOf]; omega
    · go_wp2_with fail
      go_ret
      exact ⟨rfl, B1.out.trans (HB.out.mono B1.out.size)⟩
end Go.Proofs.YtkagaobelhpojaaGreat.P5
