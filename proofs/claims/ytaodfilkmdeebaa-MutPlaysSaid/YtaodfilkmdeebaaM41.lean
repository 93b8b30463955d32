/- The reference: changes that are the same, are told so. -/
import Derived.Test.YtaodfilkmdeebaaM22
import Derived.Test.YtaodfilkmdeebaaM39
import Derived.Test.YtaodfilkmdeebaaM40
set_option linter.unusedVariables false
set_option linter.unusedSimpArgs false
namespace Go.Proofs.Ytaodfilkmdeebaa.P7
open Go.RowKit Kd P4 P5
set_option maxHeartbeats 1000000 in
theorem rrec_eq (r : Rc) (A A' : Option Addr) (n c n' c' : Nat) (w : World) (hn : r.attrs.length = n) (hn' : r.attrs.length = n') (hl : n ≤ 1000000) (h1 : kA.Holds w w.heap.size A r.attrs) (h2 : kA.Holds w w.heap.size A' r.attrs) :
    Calls Try.prog 56 #[.agg #[.int .i64 r.op, .int .i64 r.id, .int .i64 r.par, .int .i64 r.bef, .string r.tag, .string r.txt, .string r.key, .slice A n c], .agg #[.int .i64 r.op, .int .i64 r.id, .int .i64 r.par, .int .i64 r.bef, .string r.tag, .string r.txt, .string r.key, .slice A' n' c']] w fun e w' => e = .returned (.bool true) ∧ Below w.heap.size w w' := by
  obtain rfl : n' = n := by omega
  have B1 : Hid (Below w.heap.size w ((w.alloc (.cells #[.int .i64 r.op, .int .i64 r.id, .int .i64 r.par, .int .i64 r.bef, .string r.tag, .string r.txt, .string r.key, .slice A n' c] 35)).alloc (.cells #[.int .i64 r.op, .int .i64 r.id, .int .i64 r.par, .int .i64 r.bef, .string r.tag, .string r.txt, .string r.key, .slice A' n' c'] 35))) := Lib.hid (((Below.refl _ _).alloc (Nat.le_refl _) _).alloc (by simp) _)
  have M1 : Hid (RcB ((w.alloc (.cells #[.int .i64 r.op, .int .i64 r.id, .int .i64 r.par, .int .i64 r.bef, .string r.tag, .string r.txt, .string r.key, .slice A n' c] 35)).alloc (.cells #[.int .i64 r.op, .int .i64 r.id, .int .i64 r.par, .int .i64 r.bef, .string r.tag, .string r.txt, .string r.key, .slice A' n' c'] 35)) w.heap.size r A n' c) := Lib.hid (heap_up (RcB.new w r A n' c))
  have M2 : Hid (RcB ((w.alloc (.cells #[.int .i64 r.op, .int .i64 r.id, .int .i64 r.par, .int .i64 r.bef, .string r.tag, .string r.txt, .string r.key, .slice A n' c] 35)).alloc (.cells #[.int .i64 r.op, .int .i64 r.id, .int .i64 r.par, .int .i64 r.bef, .string r.tag, .string r.txt, .string r.key, .slice A' n' c'] 35)) (w.heap.size + 1) r A' n' c') := Lib.hid (heap_top (by simp))
  have H1 := Lib.hid h1
  have H2 := Lib.hid h2
  have HN := Lib.hid hn
  clear h1 h2 hn hn'
  go_enter Try.func56, Try.ntmps56
  go_upto_region 1 with fail
  generalize (w.alloc (.cells #[.int .i64 r.op, .int .i64 r.id, .int .i64 r.par, .int .i64 r.bef, .string r.tag, .string r.txt, .string r.key, .slice A n' c] 35)).alloc (.cells #[.int .i64 r.op, .int .i64 r.id, .int .i64 r.par, .int .i64 r.bef, .string r.tag, .string r.txt, .string r.key, .slice A' n' c'] 35) = W at B1 M1 M2 ⊢
  have a7 := M1.out.c7
  have b7 := M2.out.c7
  go_wp2_with fail
  refine (P3.rsame_any r.attrs r.attrs A A' n' n' c c' W HN.out HN.out (by omega) (by omega) (p3holds (H1.out.on B1.out)) (p3holds (H2.out.on B1.out))).mono ?_
  rintro e w3 ⟨rfl, b3⟩
  rw [sameA_refl]
  have B3 := Lib.hid (B1.out.trans (b3.mono B1.out.size))
  have M5 := Lib.hid (M1.out.below b3 M1.out.lt)
  have M6 := Lib.hid (M2.out.below b3 M2.out.lt)
  clear b3 a7 b7 M1 M2
  have a0 := M5.out.c0
  have a1 := M5.out.c1
  have a2 := M5.out.c2
  have a3 := M5.out.c3
  have a4 := M5.out.c4
  have a5 := M5.out.c5
  have a6 := M5.out.c6
  have a7 := M5.out.c7
  have b0 := M6.out.c0
  have b1 := M6.out.c1
  have b2 := M6.out.c2
  have b3 := M6.out.c3
  have b4 := M6.out.c4
  have b5 := M6.out.c5
  have b6 := M6.out.c6
  have b7 := M6.out.c7
  go_wp2_with fail
  go_ret
  exact ⟨rfl, B3.out⟩
set_option maxRecDepth 100000 in
set_option maxHeartbeats 4000000 in
theorem rrecs_eq (l m : List RR) (A A' : Option Addr) (n c c' : Nat) (w : World) (hl : l.length = n) (hm : l.map (·.r) = m.map (·.r)) (hn : n ≤ 1000) (h1 : kR.Holds w w.heap.size A l) (h2 : kR.Holds w w.heap.size A' m)
    (ha : ∀ a ∈ l, a.r.attrs.length = a.va.n ∧ a.va.n ≤ 1000000 ∧ kA.Holds w w.heap.size a.va.A a.r.attrs) (hb : ∀ a ∈ m, a.r.attrs.length = a.va.n ∧ kA.Holds w w.heap.size a.va.A a.r.attrs) :
    Calls Try.prog 26 #[.slice A n c, .slice A' n c'] w fun e w' => e = .returned (.bool true) ∧ Below w.heap.size w w' := by
  have hlm : m.length = n := by rw [← hl]; have := congrArg List.length hm; simpa using this.symm
  have HL := Lib.hid hl
  have HM := Lib.hid hlm
  have HE := Lib.hid hm
  have H1 := Lib.hid h1
  have H2 := Lib.hid h2
  have HA := Lib.hid ha
  have HB := Lib.hid hb
  clear hl hm hlm h1 h2 ha hb
  go_enter Try.func26, Try.ntmps26
  go_wp2_with fail
  go_loopw [5] (fun s wr => ∃ j : Nat, j ≤ n ∧ s = .int .i64 j ∧ Hid (Below w.heap.size w wr)) (fun s _ => n - (intOf s).toNat)
  case atStart => exact ⟨0, by omega, rfl, Lib.hid (Below.refl _ _)⟩
  case round =>
    obtain ⟨j, hj, rfl, HW⟩ := hrel
    by_cases hjn : j < n
    · have hjl : j < l.length := by have := HL.out; omega
      have hjm : j < m.length := by have := HM.out; omega
      obtain ⟨b, o, rfl, hbw, g0, g1, g2, g3, g4, g5, g6, g7⟩ := cell_of_recs (H1.out.on HW.out) hjl
      obtain ⟨b', o', rfl, hbw', k0, k1, k2, k3, k4, k5, k6, k7⟩ := cell_of_recs (H2.out.on HW.out) hjm
      obtain ⟨a1, a2, a3⟩ := HA.out _ (List.getElem_mem hjl)
      obtain ⟨b1, b2⟩ := HB.out _ (List.getElem_mem hjm)
      have e : l[j].r = m[j].r := by
        have := HE.out
        have h1 : (l.map (·.r))[j]'(by simpa using hjl) = (m.map (·.r))[j]'(by simpa using hjm) := by congr 1
        simpa using h1
      rw [← e] at k0 k1 k2 k3 k4 k5 k6 b1 b2
      generalize m[j].va = va' at k7 b1 b2
      clear e
      generalize l[j] = d at g0 g1 g2 g3 g4 g5 g6 g7 k0 k1 k2 k3 k4 k5 k6 k7 a1 a2 a3 b1 b2
      obtain ⟨r, A, n0, c0⟩ := d
      obtain ⟨A', n1, c1⟩ := va'
      simp only at g0 g1 g2 g3 g4 g5 g6 g7 k0 k1 k2 k3 k4 k5 k6 k7 a1 a2 a3 b1 b2
      have A1 := Lib.hid a1
      have A3 := Lib.hid a3
      have B1 := Lib.hid b1
      have B2 := Lib.hid b2
      clear a1 a3 b1 b2
      have SKEEP : Hid (∀ w', Below wr.heap.size wr w' → (w'.cell? ⟨b, o + j * 8, none⟩ = some (.int .i64 r.op) ∧ w'.cell? ⟨b, o + j * 8 + 1, none⟩ = some (.int .i64 r.id) ∧ w'.cell? ⟨b, o + j * 8 + 2, none⟩ = some (.int .i64 r.par) ∧ w'.cell? ⟨b, o + j * 8 + 3, none⟩ = some (.int .i64 r.bef) ∧ w'.cell? ⟨b, o + j * 8 + 4, none⟩ = some (.string r.tag) ∧ w'.cell? ⟨b, o + j * 8 + 5, none⟩ = some (.string r.txt) ∧ w'.cell? ⟨b, o + j * 8 + 6, none⟩ = some (.string r.key) ∧ w'.cell? ⟨b, o + j * 8 + 7, none⟩ = some (.slice A n0 c0) ∧ w'.cell? ⟨b', o' + j * 8, none⟩ = some (.int .i64 r.op) ∧ w'.cell? ⟨b', o' + j * 8 + 1, none⟩ = some (.int .i64 r.id) ∧ w'.cell? ⟨b', o' + j * 8 + 2, none⟩ = some (.int .i64 r.par) ∧ w'.cell? ⟨b', o' + j * 8 + 3, none⟩ = some (.int .i64 r.bef) ∧ w'.cell? ⟨b', o' + j * 8 + 4, none⟩ = some (.string r.tag) ∧ w'.cell? ⟨b', o' + j * 8 + 5, none⟩ = some (.string r.txt) ∧ w'.cell? ⟨b', o' + j * 8 + 6, none⟩ = some (.string r.key) ∧ w'.cell? ⟨b', o' + j * 8 + 7, none⟩ = some (.slice A' n1 c1))) := Lib.hid (fun w' hb' => ⟨(hb'.cell (p := ⟨b, o + j * 8, none⟩) hbw).trans g0, (hb'.cell (p := ⟨b, o + j * 8 + 1, none⟩) hbw).trans g1, (hb'.cell (p := ⟨b, o + j * 8 + 2, none⟩) hbw).trans g2, (hb'.cell (p := ⟨b, o + j * 8 + 3, none⟩) hbw).trans g3, (hb'.cell (p := ⟨b, o + j * 8 + 4, none⟩) hbw).trans g4, (hb'.cell (p := ⟨b, o + j * 8 + 5, none⟩) hbw).trans g5, (hb'.cell (p := ⟨b, o + j * 8 + 6, none⟩) hbw).trans g6, (hb'.cell (p := ⟨b, o + j * 8 + 7, none⟩) hbw).trans g7, (hb'.cell (p := ⟨b', o' + j * 8, none⟩) hbw').trans k0, (hb'.cell (p := ⟨b', o' + j * 8 + 1, none⟩) hbw').trans k1, (hb'.cell (p := ⟨b', o' + j * 8 + 2, none⟩) hbw').trans k2, (hb'.cell (p := ⟨b', o' + j * 8 + 3, none⟩) hbw').trans k3, (hb'.cell (p := ⟨b', o' + j * 8 + 4, none⟩) hbw').trans k4, (hb'.cell (p := ⟨b', o' + j * 8 + 5, none⟩) hbw').trans k5, (hb'.cell (p := ⟨b', o' + j * 8 + 6, none⟩) hbw').trans k6, (hb'.cell (p := ⟨b', o' + j * 8 + 7, none⟩) hbw').trans k7⟩)
      go_wp2_with fail
      go_region_held3 (fun w' => w'.cell? ⟨b, o + j * 8, none⟩ = some (.int .i64 r.op) ∧ w'.cell? ⟨b, o + j * 8 + 1, none⟩ = some (.int .i64 r.id) ∧ w'.cell? ⟨b, o + j * 8 + 2, none⟩ = some (.int .i64 r.par) ∧ w'.cell? ⟨b, o + j * 8 + 3, none⟩ = some (.int .i64 r.bef) ∧ w'.cell? ⟨b, o + j * 8 + 4, none⟩ = some (.string r.tag) ∧ w'.cell? ⟨b, o + j * 8 + 5, none⟩ = some (.string r.txt) ∧ w'.cell? ⟨b, o + j * 8 + 6, none⟩ = some (.string r.key) ∧ w'.cell? ⟨b, o + j * 8 + 7, none⟩ = some (.slice A n0 c0) ∧ w'.cell? ⟨b', o' + j * 8, none⟩ = some (.int .i64 r.op) ∧ w'.cell? ⟨b', o' + j * 8 + 1, none⟩ = some (.int .i64 r.id) ∧ w'.cell? ⟨b', o' + j * 8 + 2, none⟩ = some (.int .i64 r.par) ∧ w'.cell? ⟨b', o' + j * 8 + 3, none⟩ = some (.int .i64 r.bef) ∧ w'.cell? ⟨b', o' + j * 8 + 4, none⟩ = some (.string r.tag) ∧ w'.cell? ⟨b', o' + j * 8 + 5, none⟩ = some (.string r.txt) ∧ w'.cell? ⟨b', o' + j * 8 + 6, none⟩ = some (.string r.key) ∧ w'.cell? ⟨b', o' + j * 8 + 7, none⟩ = some (.slice A' n1 c1))
        (first | go_keep | exact SK) ((first
        | (go_at_call 56; refine (rrec_eq r A A' n0 c0 n1 c1 _ A1.out B1.out a2 (by exact (A3.out.on HW.out).drewN _) (by exact (B2.out.on HW.out).drewN _)).mono ?_; rintro e w10 ⟨rfl, b10⟩; have B10 : Hid (Below wr.heap.size wr w10) := Lib.hid ((Below_drewN (Below.refl _ wr) _).trans b10); have SK := SKEEP.out w10 B10.out; clear b10)
        | fail))
      have B11 := Lib.hid (HW.out.trans (B10.out.mono HW.out.size))
      go_wp2_with fail
      go_roundw
      case rel => exact ⟨j + 1, by omega, by go_num, B11⟩
      case measure => simp [intOf]; omega
    · go_wp2_with fail
      go_ret
      exact ⟨rfl, HW.out⟩
end Go.Proofs.Ytaodfilkmdeebaa.P7

/- The document's example of layer 7, at the head of the law: it answers true. -/
namespace Go.Proofs.Ytaodfilkmdeebaa.P7
open Go.RowKit Kd P4 P5

def recG : Rc := ⟨3, 1, 0, 0, ⟨#[]⟩, ⟨#[]⟩, ⟨#[]⟩, []⟩
def recT : Rc := ⟨1, 2, 0, 0, ⟨#[]⟩, ⟨#[]⟩, ⟨#[]⟩, []⟩
theorem exG : applyD (newD 9) recG = (4, newD 9) := by
  unfold applyD
  rw [if_neg (by decide), if_neg (by decide), if_pos (show recG.op = 3 from rfl)]
  unfold goneD
  rw [if_neg (by decide), if_pos (show recG.id = 1 from rfl)]
theorem exT : applyD (newD 9) recT = (0, ⟨[nodeR, newN 2 ⟨#[]⟩ ⟨#[]⟩ ⟨#[]⟩], 2, 9, 0⟩) := by
  have hm : mayMake ⟨#[]⟩ ⟨#[]⟩ ⟨#[]⟩ = true := by
    unfold mayMake
    rw [list0]
    decide
  unfold applyD
  rw [if_pos (show recT.op = 1 from rfl)]
  unfold makeD
  rw [if_neg (by rintro (e | e); (exact e rfl); (rw [show mayMake recT.tag recT.txt recT.key = true from hm] at e; cases e)), if_neg (by decide)]
  rfl
theorem errV4 : errV 4 = .iface 29 (.int .i64 4) := rfl
theorem replay_nil (w : World) : Calls Try.prog 54 #[.pointer none, .slice none 0 0] w fun e w' => e = .returned (.iface 29 (.int .i64 1)) ∧ w = w' := by
  go_enter Try.func54, Try.ntmps54
  go_wp2_with fail
  go_ret
  exact ⟨rfl, rfl⟩
set_option maxHeartbeats 4000000 in
theorem up_any (w : World) : Calls Try.prog 23 #[] w fun e w' => e = .returned (.bool true) ∧ Below w.heap.size w w' := by
  have q1 := err_eql_nil
  have q2 := err_eql
  have q3 := err_neq_nil
  have q4 := nil_eql_nil
  have q5 := nil_neq_nil
  go_enter Try.func23, Try.ntmps23
  go_wp2_with fail
  refine (newDoc_at 9 9 w rfl (by omega) (by omega)).mono ?_
  rintro e w1 ⟨p, x, rfl, dc1, hd1, b1⟩
  have D1 := Lib.hid dc1
  have E1 := Lib.hid hd1
  have B1 := Lib.hid b1
  clear dc1 hd1 b1
  go_wp2_with fail
  refine (new_any (some ⟨p, 0, none⟩) w1).mono ?_
  rintro e w2 ⟨rfl, hw2⟩
  have L2 : Hid (Lg w2 w.heap.size w1.heap.size p (.slice none 0 0) []) := Lib.hid (by rw [hw2]; exact Lg.new B1.out.size p)
  have b2 : Below w1.heap.size w1 w2 := by rw [hw2]; exact (Below.refl _ _).alloc (Nat.le_refl _) _
  have D2 := Lib.hid (D1.out.below b2)
  have B2 := Lib.hid (B1.out.trans (b2.mono B1.out.size))
  clear hw2 b2
  generalize w1.heap.size = g at L2 ⊢
  go_wp2_with fail
  refine (new_any none w2).mono ?_
  rintro e w3 ⟨rfl, hw3⟩
  have N3 : Hid (w3.heap[w2.heap.size]? = some (.cells #[.pointer none, .slice none 0 0] 90 (0, 0))) := Lib.hid (by rw [hw3]; exact heap_alloc_new w2 _)
  have b3 : Below w2.heap.size w2 w3 := by rw [hw3]; exact (Below.refl _ _).alloc (Nat.le_refl _) _
  have D3 := Lib.hid (D2.out.below b3)
  have L3 := Lib.hid (L2.out.below b3)
  have B3 := Lib.hid (B2.out.trans (b3.mono B2.out.size))
  have hne : g ≠ w2.heap.size := by have := heap_lt L2.out.blk; omega
  clear hw3 b3
  generalize w2.heap.size = g0 at N3 hne ⊢
  have hn1 : x.n ≤ 100000 := by have : x.d.n = 1 := by rw [E1.out]; rfl
                                have h2 : x.n = 1 := this
                                omega
  have hwf1 := Lib.hid (wf_newD (R := 9) (by omega) (by omega))
  go_wp2_with fail
  refine (do_any (c' := 4) recG none 0 0 w3 (by rw [E1.out, exG]) (by rw [E1.out]; exact hwf1.out) hn1 (fun w9 _ => ⟨argNil w9, size_nil, size_nil, size_nil⟩) (by simp) D3.out L3.out).mono ?_
  rintro e w4 ⟨rfl, x4, vd4, rs4, l4, hx4, hm4, _⟩
  rw [errV4]
  rw [E1.out, exG] at hx4
  rw [if_neg (by decide)] at hm4
  have B4 := Lib.hid (B3.out.trans ((l4.to_below D3.out L3.out)))
  have N4 : Hid (w4.heap[g0]? = some (.cells #[.pointer none, .slice none 0 0] 90 (0, 0))) := Lib.hid ((l4.but.block g0 (heap_lt N3.out) (fun e => by
    rcases e with e | e | e
    · exact D3.out.other N3.out (by decide) (by decide) (by decide) (by decide) (by decide) e
    · exact hne e.symm
    · cases e)).trans N3.out)
  have D4 := Lib.hid l4.dc
  have L4 := Lib.hid l4.lg
  have E4 := Lib.hid hx4
  have M4 := Lib.hid hm4
  have hl4 : rs4.length = 0 := by have := congrArg List.length hm4; simpa using this
  have hn4 : x4.n ≤ 100000 := by have : x4.d.n = 1 := by rw [hx4]; rfl
                                 have h2 : x4.n = 1 := this
                                 omega
  clear l4 hx4 hm4 hn1 D1 E1 D2 L2 B1 B2 B3 N3 D3 L3
  go_wp2_with fail
  refine (do_any (c' := 0) recT none 0 0 w4 (by rw [E4.out, exT]) (by rw [E4.out]; exact hwf1.out) hn4 (fun w9 _ => ⟨argNil w9, size_nil, size_nil, size_nil⟩) (by omega) D4.out L4.out).mono ?_
  rintro e w5 ⟨rfl, x5, vd5, rs5, l5, hx5, hm5, _⟩
  rw [errV0]
  rw [if_pos rfl, M4.out] at hm5
  have B5 := Lib.hid (B4.out.trans (l5.to_below D4.out L4.out))
  have N5 : Hid (w5.heap[g0]? = some (.cells #[.pointer none, .slice none 0 0] 90 (0, 0))) := Lib.hid ((l5.but.block g0 (heap_lt N4.out) (fun e => by
    rcases e with e | e | e
    · exact D4.out.other N4.out (by decide) (by decide) (by decide) (by decide) (by decide) e
    · exact hne e.symm
    · obtain ⟨d, hd⟩ := L4.out.own.ty e
      exact heap_ne hd N4.out (by decide) rfl)).trans N4.out)
  have L5 := Lib.hid l5.lg
  have M5 := Lib.hid hm5
  have hl5 : rs5.length = 1 := by have := congrArg List.length hm5; simpa using this
  clear l5 hx5 hm5 hn4 D4 L4 B4 N4 E4 M4 hl4
  go_wp2_with fail
  refine (all_any w5 (by omega) L5.out).mono ?_
  rintro e w6 ⟨A, n, c, rs6, rfl, o6, hm6, _, b6⟩
  obtain ⟨_, _, _, hv, hl6, _⟩ := own_r o6
  injection hv with e1 e2 e3
  subst e1; subst e2; subst e3
  obtain rfl : n = 1 := by rw [← hl6, ← hl5]; have := congrArg List.length hm6; simpa using this
  have N6 : Hid (w6.heap[g0]? = some (.cells #[.pointer none, .slice none 0 0] 90 (0, 0))) := Lib.hid ((b6.block g0 (heap_lt N5.out)).trans N5.out)
  have B6 := Lib.hid (B5.out.trans (b6.mono B5.out.size))
  clear o6 hm6 b6 hl6 hl5 N5 B5 L5 M5
  go_wp2_with fail
  refine (do_nil recT none 0 0 w6 (.slice none 0 0) N6.out).mono ?_
  rintro e w7 ⟨rfl, b7⟩
  have B7 := Lib.hid (B6.out.trans (b7.mono B6.out.size))
  clear b7
  go_wp2_with fail
  refine (replay_nil w7).mono ?_
  rintro e w' ⟨rfl, rfl⟩
  go_wp2_with fail
  go_ret
  exact ⟨rfl, B7.out⟩
end Go.Proofs.Ytaodfilkmdeebaa.P7
