/- Layer 6's example; documents to which any deeds were done. -/
import Derived.Deep.RegionWith
import Derived.Test.YtkagaobelhpojaaGreatM18
import Derived.Test.YtkagaobelhpojaaGreatM29
import Derived.Test.YtkagaobelhpojaaGreatM31
import Derived.Test.YtkagaobelhpojaaGreatM32
import Derived.Test.YtkagaobelhpojaaGreatM38
import Derived.Test.YtkagaobelhpojaaGreatM39
import Derived.Test.YtkagaobelhpojaaGreatM40
import Derived.Test.YtkagaobelhpojaaGreatM41
set_option linter.unusedVariables false
set_option linter.unusedSimpArgs false
namespace Go.Proofs.YtkagaobelhpojaaGreat.P6
open Go.RowKit Kd P4 P5
theorem new_down : downA (downL (newD 9).l 1 []) = (1, true) := rfl
theorem new_in : inside (newD 9).l 1 1 = true := by decide
theorem new_all : (allL (newD 9).l 1).length = 1 := by decide
theorem new_up : aboveL (newD 9).l 7 = [] := by decide
def GrownS (w : World) (e : Ending) (w' : World) : Prop := ∃ (p q : Nat) (x : Dx) (y : Rx), e = .returned (.tuple #[.pointer (some ⟨p, 0, none⟩), .pointer (some ⟨q, 0, none⟩)]) ∧ Par w' w.heap.size p q x y ∧ x.d = y.d ∧ WF x.d ∧ x.n ≤ 2000 ∧ Below w.heap.size w w'
def GrRel (w : World) (p q m : Nat) (i : Value) (wr : World) : Prop := ∃ (k : Nat) (x : Dx) (y : Rx), k ≤ m ∧ i = .int .i64 k ∧ x.n ≤ (k : Int) + 1 ∧ Hid (Par wr w.heap.size p q x y) ∧ Hid (x.d = y.d) ∧ Hid (WF x.d) ∧ Hid (Below w.heap.size w wr)
theorem Rf.base_le' {w : World} {B B' q : Nat} {y : Rx} (h : Rf w B q y) (hB : B' ≤ B) : Rf w B' q y := ⟨h.blk, Nat.le_trans hB h.base, h.own.base_le hB, fun r hr => ⟨(h.nodes r hr).att, (h.nodes r hr).kids.base_le hB⟩⟩
set_option maxHeartbeats 8000000 in
set_option maxRecDepth 100000 in
theorem grownS_any (R : Nat) (hR1 : 1 ≤ R) (hR2 : R ≤ 200) (ds : List RE) (A : Option Addr) (m c : Nat) (w : World) (hm : ds.length = m) (hm60 : m ≤ 1000) (h20 : ∀ d ∈ ds, d.va.n ≤ 20) (hwf : ∀ d ∈ ds, DeedOk w d) (H : kE.Holds w w.heap.size A ds) :
    Calls Tryz.prog 7 #[.int .i64 R, .slice A m c] w (GrownS w) := by
  have HH := Lib.hid H
  have HM := Lib.hid hm
  have HF := Lib.hid hwf
  have H20 := Lib.hid h20
  clear H hm hwf h20
  have q4 := nil_eql_nil
  have q5 := nil_neq_nil
  go_enter Tryz.func7, Tryz.ntmps7
  go_wp2_with fail
  refine (newDoc_yes R _ hR1 hR2).mono ?_
  rintro e w2 ⟨p, x0, rfl, dc0, hd0, b2⟩
  have D0 := Lib.hid dc0
  have E0 := Lib.hid hd0
  have B2 := Lib.hid b2
  have W0 : Hid (WF x0.d) := Lib.hid (by rw [hd0]; exact wf_newD hR1 hR2)
  have N0 : Hid (x0.n = 1) := Lib.hid (by have : x0.d.n = 1 := by rw [hd0]; rfl
                                          exact this)
  clear dc0 hd0 b2
  go_wp2_with fail
  refine (rnew_any R w2).mono ?_
  rintro e w4 ⟨q, y0, rfl, rf4, hy4, b4⟩
  have P4' : Hid (Par w4 w.heap.size p q x0 y0) := Lib.hid ⟨D0.out.below b4, Rf.base_le' rf4 B2.out.size, fun i hi hr => by have := D0.out.lt hi; have := rf4.ge hr; omega⟩
  have E4 : Hid (x0.d = y0.d) := Lib.hid (by rw [E0.out, hy4])
  have B4 := Lib.hid (B2.out.trans (b4.mono B2.out.size))
  clear rf4 hy4 b4
  go_wp2_with fail
  go_loopw [9] (fun i wr => GrRel w p q m i wr) (fun i _ => m - (intOf i).toNat)
  case atStart => exact ⟨0, x0, y0, by omega, rfl, by have := N0.out; omega, P4', E4, W0, B4⟩
  case round =>
    obtain ⟨k, x, y, hk, rfl, hnk, HP, HE, HWF, HW⟩ := hrel
    by_cases hkm : k < m
    · have hkl : k < ds.length := by have := HM.out; omega
      obtain ⟨b0, o0, rfl, hb0, g0, g1, g2, g3, g4, g5, g6, g7, g8, g9, g10, g11⟩ := cell_of_deeds (HH.out.on HW.out) hkl
      have hdk := Lib.hid (HF.out _ (List.getElem_mem hkl))
      have h20k : ds[k].va.n ≤ 20 := H20.out _ (List.getElem_mem hkl)
      generalize ds[k] = d at g0 g1 g2 g3 g4 g5 g6 g7 g8 g9 g10 g11 hdk h20k
      have hn100 : x.n ≤ 100000 := by omega
      go_wp2_with fail
      refine (rec_any d wr hn100 HP.out.dc).mono ?_
      rintro e w4 ⟨rfl, b4⟩
      generalize hrid : (if d.next = true ∧ d.op = 1 then x.n + 1 else d.rid) = rid
      have B4 := Lib.hid b4
      obtain ⟨al, a1, a2, a3, a4, a5, a6⟩ := hdk.out.at_
      clear b4 hrid g0 g1 g2 g3 g4 g5 g6 g7 g8 g9 g10 g11
      have BA : Hid (Below wr.heap.size wr (w4.alloc (.cells #[.int .i64 d.op, .int .i64 rid, .int .i64 d.par, .int .i64 d.bef, .string d.tag, .string d.txt, .string d.key, .slice d.va.A d.va.n d.va.c] 57))) := Lib.hid (B4.out.alloc B4.out.size _)
      have NR : Hid (RcB (w4.alloc (.cells #[.int .i64 d.op, .int .i64 rid, .int .i64 d.par, .int .i64 d.bef, .string d.tag, .string d.txt, .string d.key, .slice d.va.A d.va.n d.va.c] 57)) w4.heap.size ⟨d.op, rid, d.par, d.bef, d.tag, d.txt, d.key, al⟩ d.va.A d.va.n d.va.c) := Lib.hid (RcB.new w4 ⟨d.op, rid, d.par, d.bef, d.tag, d.txt, d.key, al⟩ d.va.A d.va.n d.va.c)
      go_upto_region 9 with fail
      generalize w4.alloc (.cells #[.int .i64 d.op, .int .i64 rid, .int .i64 d.par, .int .i64 d.bef, .string d.tag, .string d.txt, .string d.key, .slice d.va.A d.va.n d.va.c] 57) = wb at BA NR ⊢
      generalize w4.heap.size = g at NR ⊢
      have HPa := Lib.hid (HP.out.below BA.out)
      have WAa := Lib.hid (HW.out.trans (BA.out.mono HW.out.size))
      have AR : Hid (∀ w9, Below w.heap.size w w9 → ArgR w9 d.va.A d.va.n d.va.c ⟨d.op, rid, d.par, d.bef, d.tag, d.txt, d.key, al⟩) := Lib.hid (fun w9 hb => ⟨⟨a1, a2, a4, by omega, a6, a5.on hb⟩, hdk.out.tag, hdk.out.txt, hdk.out.key⟩)
      clear a1 a2 a3 a4 a5 a6 B4 BA
      have r0 := NR.out.c0
      have r1 := NR.out.c1
      have r2 := NR.out.c2
      have r3 := NR.out.c3
      have r4 := NR.out.c4
      have r5 := NR.out.c5
      have r6 := NR.out.c6
      have r7 := NR.out.c7
      simp only at r0 r1 r2 r3 r4 r5 r6 r7
      go_wp2_with fail
      refine (apply_any ⟨d.op, rid, d.par, d.bef, d.tag, d.txt, d.key, al⟩ d.va.A d.va.n d.va.c wb HWF.out hn100 (AR.out _ WAa.out) HPa.out.dc).mono ?_
      rintro e w5 ⟨rfl, x5, d5, hx5⟩
      have P5 := Lib.hid (HPa.out.did d5)
      have NR5 := Lib.hid (NR.out.did HPa.out.dc d5)
      have HX5 := Lib.hid hx5
      have W5 := Lib.hid (WAa.out.trans (d5.to_below HPa.out.dc))
      generalize errV (applyD x.d ⟨d.op, rid, d.par, d.bef, d.tag, d.txt, d.key, al⟩).1 = ev5
      clear d5 hx5 r0 r1 r2 r3 r4 r5 r6 r7
      have r0 := NR5.out.c0
      have r1 := NR5.out.c1
      have r2 := NR5.out.c2
      have r3 := NR5.out.c3
      have r4 := NR5.out.c4
      have r5 := NR5.out.c5
      have r6 := NR5.out.c6
      have r7 := NR5.out.c7
      simp only at r0 r1 r2 r3 r4 r5 r6 r7
      go_wp2_with fail
      refine (rapply_any ⟨d.op, rid, d.par, d.bef, d.tag, d.txt, d.key, al⟩ d.va.A d.va.n d.va.c w5 (by rw [← HE.out]; exact HWF.out) (by have h1 := congrArg D.n HE.out; have h2 : x.n = y.n := h1; omega) hdk.out.tag hdk.out.txt hdk.out.key (AR.out _ W5.out).at_ P5.out.rf).mono ?_
      rintro e w6 ⟨rfl, y6, d6, hy6⟩
      have P6 := Lib.hid (P5.out.rdid d6)
      have HY6 := Lib.hid hy6
      have W6 := Lib.hid (W5.out.trans (d6.to_below P5.out.rf))
      have hn5 : x5.n ≤ ((k + 1 : Nat) : Int) + 1 := by have h1 := congrArg D.n HX5.out; have h2 := (apply_n x.d ⟨d.op, rid, d.par, d.bef, d.tag, d.txt, d.key, al⟩).2; rw [← h1] at h2; have h3 : x5.n ≤ x.n + 1 := h2; omega
      clear d6 hy6 r0 r1 r2 r3 r4 r5 r6 r7
      go_wp2_with fail
      go_roundw
      case rel => exact ⟨k + 1, x5, y6, by omega, by go_num, hn5, P6, Lib.hid (by rw [HX5.out, HY6.out, HE.out]), Lib.hid (by rw [HX5.out]; exact wf_apply HWF.out _), W6⟩
      case measure => simp [intOf]; omega
    · obtain rfl : k = m := by omega
      go_wp2_with fail
      go_ret2
      exact ⟨p, q, x, y, rfl, HP.out, HE.out, HWF.out, by omega, HW.out⟩
def Grown6 (w : World) (e : Ending) (w' : World) : Prop := ∃ (p q : Nat) (x : Dx) (y : Rx), e = .returned (.tuple #[.pointer (some ⟨p, 0, none⟩), .pointer (some ⟨q, 0, none⟩)]) ∧ Par w' w.heap.size p q x y ∧ x.d = y.d ∧ WF x.d ∧ x.n ≤ 100000 ∧ Below w.heap.size w w'
theorem grown_any (R : Nat) (hR1 : 1 ≤ R) (hR2 : R ≤ 200) (ds : List RE) (A : Option Addr) (m c : Nat) (w : World) (hm : ds.length = m) (hm60 : m ≤ 1000) (h20 : ∀ d ∈ ds, d.va.n ≤ 20) (hwf : ∀ d ∈ ds, DeedOk w d) (H : kE.Holds w w.heap.size A ds) :
    Calls Tryz.prog 7 #[.int .i64 R, .slice A m c] w (Grown6 w) := (grownS_any R hR1 hR2 ds A m c w hm hm60 h20 hwf H).mono fun e w' ⟨p, q, x, y, h1, h2, h3, h4, h5, h6⟩ => ⟨p, q, x, y, h1, h2, h3, h4, by omega, h6⟩
end Go.Proofs.YtkagaobelhpojaaGreat.P6

/- The reference: changes that are the same, are told so. -/
namespace Go.Proofs.YtkagaobelhpojaaGreat.P7
open Go.RowKit Kd P4 P5
set_option maxHeartbeats 1000000 in
theorem rrec_eq (r : Rc) (A A' : Option Addr) (n c n' c' : Nat) (w : World) (hn : r.attrs.length = n) (hn' : r.attrs.length = n') (hl : n ≤ 1000000) (h1 : kA.Holds w w.heap.size A r.attrs) (h2 : kA.Holds w w.heap.size A' r.attrs) :
    Calls Tryz.prog 36 #[.agg #[.int .i64 r.op, .int .i64 r.id, .int .i64 r.par, .int .i64 r.bef, .string r.tag, .string r.txt, .string r.key, .slice A n c], .agg #[.int .i64 r.op, .int .i64 r.id, .int .i64 r.par, .int .i64 r.bef, .string r.tag, .string r.txt, .string r.key, .slice A' n' c']] w fun e w' => e = .returned (.bool true) ∧ Below w.heap.size w w' := by
  obtain rfl : n' = n := by omega
  have B1 : Hid (Below w.heap.size w ((w.alloc (.cells #[.int .i64 r.op, .int .i64 r.id, .int .i64 r.par, .int .i64 r.bef, .string r.tag, .string r.txt, .string r.key, .slice A n' c] 57)).alloc (.cells #[.int .i64 r.op, .int .i64 r.id, .int .i64 r.par, .int .i64 r.bef, .string r.tag, .string r.txt, .string r.key, .slice A' n' c'] 57))) := Lib.hid (((Below.refl _ _).alloc (Nat.le_refl _) _).alloc (by simp) _)
  have M1 : Hid (RcB ((w.alloc (.cells #[.int .i64 r.op, .int .i64 r.id, .int .i64 r.par, .int .i64 r.bef, .string r.tag, .string r.txt, .string r.key, .slice A n' c] 57)).alloc (.cells #[.int .i64 r.op, .int .i64 r.id, .int .i64 r.par, .int .i64 r.bef, .string r.tag, .string r.txt, .string r.key, .slice A' n' c'] 57)) w.heap.size r A n' c) := Lib.hid (heap_up (RcB.new w r A n' c))
  have M2 : Hid (RcB ((w.alloc (.cells #[.int .i64 r.op, .int .i64 r.id, .int .i64 r.par, .int .i64 r.bef, .string r.tag, .string r.txt, .string r.key, .slice A n' c] 57)).alloc (.cells #[.int .i64 r.op, .int .i64 r.id, .int .i64 r.par, .int .i64 r.bef, .string r.tag, .string r.txt, .string r.key, .slice A' n' c'] 57)) (w.heap.size + 1) r A' n' c') := Lib.hid (heap_top (by simp))
  have H1 := Lib.hid h1
  have H2 := Lib.hid h2
  have HN := Lib.hid hn
  clear h1 h2 hn hn'
  go_enter Tryz.func36, Tryz.ntmps36
  go_upto_region 1 with fail
  generalize (w.alloc (.cells #[.int .i64 r.op, .int .i64 r.id, .int .i64 r.par, .int .i64 r.bef, .string r.tag, .string r.txt, .string r.key, .slice A n' c] 57)).alloc (.cells #[.int .i64 r.op, .int .i64 r.id, .int .i64 r.par, .int .i64 r.bef, .string r.tag, .string r.txt, .string r.key, .slice A' n' c'] 57) = W at B1 M1 M2 ⊢
  have a7 := M1.out.c7
  have b7 := M2.out.c7
  go_wp2_with fail
  refine (P3.rsame_any r.attrs r.attrs A A' n' n' c c' W HN.out HN.out (by omega) (by omega) (p3holds (H1.out.on B1.out)) (p3holds (H2.out.on B1.out))).mono ?_
  rintro e w3 ⟨rfl, b3⟩
  rw [sameA_refl]
  have B3 := Lib.hid (B1.out.trans (b3.mono B1.out.size))
  have M5 := Lib.hid (M1.out.below b3 M1.out.lt)
  have M6 := Lib.hid (M2.out.below b3 M2.out.lt)
  clear b3 a7 b7 M1 M2
  have a0 := M5.out.c0
  have a1 := M5.out.c1
  have a2 := M5.out.c2
  have a3 := M5.out.c3
  have a4 := M5.out.c4
  have a5 := M5.out.c5
  have a6 := M5.out.c6
  have a7 := M5.out.c7
  have b0 := M6.out.c0
  have b1 := M6.out.c1
  have b2 := M6.out.c2
  have b3 := M6.out.c3
  have b4 := M6.out.c4
  have b5 := M6.out.c5
  have b6 := M6.out.c6
  have b7 := M6.out.c7
  go_wp2_with fail
  go_ret
  exact ⟨rfl, B3.out⟩
set_option maxRecDepth 100000 in
set_option maxHeartbeats 4000000 in
theorem rrecs_eq (l m : List RR) (A A' : Option Addr) (n c c' : Nat) (w : World) (hl : l.length = n) (hm : l.map (·.r) = m.map (·.r)) (hn : n ≤ 1000) (h1 : kR.Holds w w.heap.size A l) (h2 : kR.Holds w w.heap.size A' m)
    (ha : ∀ a ∈ l, a.r.attrs.length = a.va.n ∧ a.va.n ≤ 1000000 ∧ kA.Holds w w.heap.size a.va.A a.r.attrs) (hb : ∀ a ∈ m, a.r.attrs.length = a.va.n ∧ kA.Holds w w.heap.size a.va.A a.r.attrs) :
    Calls Tryz.prog 14 #[.slice A n c, .slice A' n c'] w fun e w' => e = .returned (.bool true) ∧ Below w.heap.size w w' := by
  have hlm : m.length = n := by rw [← hl]; have := congrArg List.length hm; simpa using this.symm
  have HL := Lib.hid hl
  have HM := Lib.hid hlm
  have HE := Lib.hid hm
  have H1 := Lib.hid h1
  have H2 := Lib.hid h2
  have HA := Lib.hid ha
  have HB := Lib.hid hb
  clear hl hm hlm h1 h2 ha hb
  go_enter Tryz.func14, Tryz.ntmps14
  go_wp2_with fail
  go_loopw [5] (fun s wr => ∃ j : Nat, j ≤ n ∧ s = .int .i64 j ∧ Hid (Below w.heap.size w wr)) (fun s _ => n - (intOf s).toNat)
  case atStart => exact ⟨0, by omega, rfl, Lib.hid (Below.refl _ _)⟩
  case round =>
    obtain ⟨j, hj, rfl, HW⟩ := hrel
    by_cases hjn : j < n
    · have hjl : j < l.length := by have := HL.out; omega
      have hjm : j < m.length := by have := HM.out; omega
      obtain ⟨b, o, rfl, hbw, g0, g1, g2, g3, g4, g5, g6, g7⟩ := cell_of_recs (H1.out.on HW.out) hjl
      obtain ⟨b', o', rfl, hbw', k0, k1, k2, k3, k4, k5, k6, k7⟩ := cell_of_recs (H2.out.on HW.out) hjm
      obtain ⟨a1, a2, a3⟩ := HA.out _ (List.getElem_mem hjl)
      obtain ⟨b1, b2⟩ := HB.out _ (List.getElem_mem hjm)
      have e : l[j].r = m[j].r := by
        have := HE.out
        have h1 : (l.map (·.r))[j]'(by simpa using hjl) = (m.map (·.r))[j]'(by simpa using hjm) := by congr 1
        simpa using h1
      rw [← e] at k0 k1 k2 k3 k4 k5 k6 b1 b2
      generalize m[j].va = va' at k7 b1 b2
      clear e
      generalize l[j] = d at g0 g1 g2 g3 g4 g5 g6 g7 k0 k1 k2 k3 k4 k5 k6 k7 a1 a2 a3 b1 b2
      obtain ⟨r, A, n0, c0⟩ := d
      obtain ⟨A', n1, c1⟩ := va'
      simp only at g0 g1 g2 g3 g4 g5 g6 g7 k0 k1 k2 k3 k4 k5 k6 k7 a1 a2 a3 b1 b2
      have A1 := Lib.hid a1
      have A3 := Lib.hid a3
      have B1 := Lib.hid b1
      have B2 := Lib.hid b2
      clear a1 a3 b1 b2
      have SKEEP : Hid (∀ w', Below wr.heap.size wr w' → (w'.cell? ⟨b, o + j * 8, none⟩ = some (.int .i64 r.op) ∧ w'.cell? ⟨b, o + j * 8 + 1, none⟩ = some (.int .i64 r.id) ∧ w'.cell? ⟨b, o + j * 8 + 2, none⟩ = some (.int .i64 r.par) ∧ w'.cell? ⟨b, o + j * 8 + 3, none⟩ = some (.int .i64 r.bef) ∧ w'.cell? ⟨b, o + j * 8 + 4, none⟩ = some (.string r.tag) ∧ w'.cell? ⟨b, o + j * 8 + 5, none⟩ = some (.string r.txt) ∧ w'.cell? ⟨b, o + j * 8 + 6, none⟩ = some (.string r.key) ∧ w'.cell? ⟨b, o + j * 8 + 7, none⟩ = some (.slice A n0 c0) ∧ w'.cell? ⟨b', o' + j * 8, none⟩ = some (.int .i64 r.op) ∧ w'.cell? ⟨b', o' + j * 8 + 1, none⟩ = some (.int .i64 r.id) ∧ w'.cell? ⟨b', o' + j * 8 + 2, none⟩ = some (.int .i64 r.par) ∧ w'.cell? ⟨b', o' + j * 8 + 3, none⟩ = some (.int .i64 r.bef) ∧ w'.cell? ⟨b', o' + j * 8 + 4, none⟩ = some (.string r.tag) ∧ w'.cell? ⟨b', o' + j * 8 + 5, none⟩ = some (.string r.txt) ∧ w'.cell? ⟨b', o' + j * 8 + 6, none⟩ = some (.string r.key) ∧ w'.cell? ⟨b', o' + j * 8 + 7, none⟩ = some (.slice A' n1 c1))) := Lib.hid (fun w' hb' => ⟨(hb'.cell (p := ⟨b, o + j * 8, none⟩) hbw).trans g0, (hb'.cell (p := ⟨b, o + j * 8 + 1, none⟩) hbw).trans g1, (hb'.cell (p := ⟨b, o + j * 8 + 2, none⟩) hbw).trans g2, (hb'.cell (p := ⟨b, o + j * 8 + 3, none⟩) hbw).trans g3, (hb'.cell (p := ⟨b, o + j * 8 + 4, none⟩) hbw).trans g4, (hb'.cell (p := ⟨b, o + j * 8 + 5, none⟩) hbw).trans g5, (hb'.cell (p := ⟨b, o + j * 8 + 6, none⟩) hbw).trans g6, (hb'.cell (p := ⟨b, o + j * 8 + 7, none⟩) hbw).trans g7, (hb'.cell (p := ⟨b', o' + j * 8, none⟩) hbw').trans k0, (hb'.cell (p := ⟨b', o' + j * 8 + 1, none⟩) hbw').trans k1, (hb'.cell (p := ⟨b', o' + j * 8 + 2, none⟩) hbw').trans k2, (hb'.cell (p := ⟨b', o' + j * 8 + 3, none⟩) hbw').trans k3, (hb'.cell (p := ⟨b', o' + j * 8 + 4, none⟩) hbw').trans k4, (hb'.cell (p := ⟨b', o' + j * 8 + 5, none⟩) hbw').trans k5, (hb'.cell (p := ⟨b', o' + j * 8 + 6, none⟩) hbw').trans k6, (hb'.cell (p := ⟨b', o' + j * 8 + 7, none⟩) hbw').trans k7⟩)
      go_wp2_with fail
      go_region_held3 (fun w' => w'.cell? ⟨b, o + j * 8, none⟩ = some (.int .i64 r.op) ∧ w'.cell? ⟨b, o + j * 8 + 1, none⟩ = some (.int .i64 r.id) ∧ w'.cell? ⟨b, o + j * 8 + 2, none⟩ = some (.int .i64 r.par) ∧ w'.cell? ⟨b, o + j * 8 + 3, none⟩ = some (.int .i64 r.bef) ∧ w'.cell? ⟨b, o + j * 8 + 4, none⟩ = some (.string r.tag) ∧ w'.cell? ⟨b, o + j * 8 + 5, none⟩ = some (.string r.txt) ∧ w'.cell? ⟨b, o + j * 8 + 6, none⟩ = some (.string r.key) ∧ w'.cell? ⟨b, o + j * 8 + 7, none⟩ = some (.slice A n0 c0) ∧ w'.cell? ⟨b', o' + j * 8, none⟩ = some (.int .i64 r.op) ∧ w'.cell? ⟨b', o' + j * 8 + 1, none⟩ = some (.int .i64 r.id) ∧ w'.cell? ⟨b', o' + j * 8 + 2, none⟩ = some (.int .i64 r.par) ∧ w'.cell? ⟨b', o' + j * 8 + 3, none⟩ = some (.int .i64 r.bef) ∧ w'.cell? ⟨b', o' + j * 8 + 4, none⟩ = some (.string r.tag) ∧ w'.cell? ⟨b', o' + j * 8 + 5, none⟩ = some (.string r.txt) ∧ w'.cell? ⟨b', o' + j * 8 + 6, none⟩ = some (.string r.key) ∧ w'.cell? ⟨b', o' + j * 8 + 7, none⟩ = some (.slice A' n1 c1))
        (first | go_keep | exact SK) ((first
        | (go_at_call 36; refine (rrec_eq r A A' n0 c0 n1 c1 _ A1.out B1.out a2 (by exact (A3.out.on HW.out).drewN _) (by exact (B2.out.on HW.out).drewN _)).mono ?_; rintro e w10 ⟨rfl, b10⟩; have B10 : Hid (Below wr.heap.size wr w10) := Lib.hid ((Below_drewN (Below.refl _ wr) _).trans b10); have SK := SKEEP.out w10 B10.out; clear b10)
        | fail))
      have B11 := Lib.hid (HW.out.trans (B10.out.mono HW.out.size))
      go_wp2_with fail
      go_roundw
      case rel => exact ⟨j + 1, by omega, by go_num, B11⟩
      case measure => simp [intOf]; omega
    · go_wp2_with fail
      go_ret
      exact ⟨rfl, HW.out⟩
end Go.Proofs.YtkagaobelhpojaaGreat.P7

/- The walk of TreeBuilds: it answers true, for all deeds, any place, any tree, any node. -/
namespace Go.Proofs.YtkagaobelhpojaaGreat.P8
open Go.RowKit Kd P4 P5 P6 P7
theorem rof_c {B q : Nat} {y : Rx} (w : World) (i : Int) (hwf : WF y.d) (hi : hasL y.l i = true) (h : Rf w B q y) : Calls Tryz.prog 19 #[.pointer (some ⟨q, 0, none⟩), .int .i64 i] w (RTold w (treeP y.l (y.l.length + 1) i)) := by
  have hb : Hb (kidsOf y.l) (y.l.length + 1) i := by
    have h1 : Hb (kidsOf y.l) ((idsOf y.l).length + 1) i := hwf.tr.hb_all (L := idsOf y.l) (fun y hy => has_ids.1 hy) (y := i) hi
    simpa [idsOf] using h1
  exact rof_any hwf _ i w hb hi h
set_option maxRecDepth 100000 in
set_option maxHeartbeats 40000000 in
theorem tbuilds_any (par bef id : Int) (ds : List RE) (A : Option Addr) (m c : Nat) (t : TV) (w : World) (hm : ds.length = m) (hmc : m ≤ c) (hcm : c ≤ maxLen) (hwf : ∀ d ∈ ds, DeedOk w d) (H : kE.Holds w w.heap.size A ds) (ht : TOk w w.heap.size t) (ft : TFit t) :
    Calls Tryz.prog 3 #[.slice A m c, .int .i64 par, .int .i64 bef, .agg #[.string t.tag, .string t.txt, .string t.key, .slice t.sa.A t.sa.n t.sa.c, .slice t.sk.A t.sk.n t.sk.c], .int .i64 id] w fun e w' => e = .returned (.bool true) ∧ Below w.heap.size w w' := by
  have HH := Lib.hid H
  have HM := Lib.hid hm
  have HF := Lib.hid hwf
  have HT := Lib.hid ht
  have FT := Lib.hid ft
  have hmx : m ≤ maxLen := by omega
  have q1 := err_eql
  have q4 := nil_eql_nil
  have q5 := nil_neq_nil
  have B1 : Hid (Below w.heap.size w (w.alloc (.cells #[.string t.tag, .string t.txt, .string t.key, .slice t.sa.A t.sa.n t.sa.c, .slice t.sk.A t.sk.n t.sk.c] 26))) := Lib.hid ((Below.refl _ _).alloc (Nat.le_refl _) _)
  have N1 : Hid (TB (w.alloc (.cells #[.string t.tag, .string t.txt, .string t.key, .slice t.sa.A t.sa.n t.sa.c, .slice t.sk.A t.sk.n t.sk.c] 26)) w.heap.size t) := Lib.hid (TB.new w t)
  clear H hm hwf ht ft
  go_enter Tryz.func3, Tryz.ntmps3
  go_upto_region 1 with fail
  generalize w.alloc (.cells #[.string t.tag, .string t.txt, .string t.key, .slice t.sa.A t.sa.n t.sa.c, .slice t.sk.A t.sk.n t.sk.c] 26) = W0 at B1 N1 ⊢
  go_wp2_with fail
  refine (up8_any may_c count_c same_c of_nil W0).mono ?_
  rintro e w1 ⟨rfl, b⟩
  have B2 := Lib.hid (B1.out.trans (b.mono B1.out.size))
  have N2 := Lib.hid (N1.out.below b N1.out.lt)
  clear b B1 N1
  go_wp2_with fail
  refine (fewM_any 40 (by omega) ds A m c w1 HM.out hmx (HH.out.on B2.out) (fun d hd => (HF.out d hd).below B2.out)).mono ?_
  rintro e w2 ⟨f, rfl, hf, b⟩
  have B3 := Lib.hid (B2.out.trans (b.mono B2.out.size))
  have N3 := Lib.hid (N2.out.below b N2.out.lt)
  clear b B2 N2
  rcases hf with rfl | ⟨rfl, hm40, h20⟩
  · go_wp2_with fail
    go_ret
    exact ⟨rfl, B3.out⟩
  rw [HM.out] at hm40
  have H20 := Lib.hid h20
  clear h20
  have a0 := N3.out.c0; have a1 := N3.out.c1; have a2 := N3.out.c2; have a3 := N3.out.c3; have a4 := N3.out.c4
  go_wp2_with fail
  refine (many_any t 40 w2 (by omega) (HT.out.on B3.out) FT.out).mono ?_
  rintro e w3 ⟨mm, rfl, hm1, hm2, hm3, b⟩
  have B4 := Lib.hid (B3.out.trans (b.mono B3.out.size))
  have N4 := Lib.hid (N3.out.below b N3.out.lt)
  clear b B3 N3 a0 a1 a2 a3 a4
  by_cases hmm : 40 < mm
  · have q7 : decide ((40 : Int) < (mm : Int)) = true := by simp; omega
    go_wp2_with fail
    go_ret
    exact ⟨rfl, B4.out⟩
  have q7 : decide ((40 : Int) < (mm : Int)) = false := by simp; omega
  obtain ⟨hmc', hmf⟩ := hm3 (by omega)
  have hct : countP (er t) ≤ 40 := by omega
  have HMF := Lib.hid hmf
  have HCT := Lib.hid hct
  have hCB : w.heap.size ≤ w3.heap.size := B4.out.size
  clear hm3 hmc' hmf hm1 hm2
  go_wp2_with fail
  refine (grownS_any 30 (by omega) (by omega) ds A m c w3 HM.out (by omega) H20.out (fun d hd => (HF.out d hd).below B4.out) (HH.out.on B4.out)).mono ?_
  rintro e w4 ⟨p, q, x, y, rfl, hp, he, hwf, hn, b⟩
  have P5' := Lib.hid hp
  have E5 := Lib.hid he
  have WX := Lib.hid hwf
  have B5 := Lib.hid (B4.out.trans (b.mono B4.out.size))
  have N5 := Lib.hid (N4.out.below b N4.out.lt)
  clear hp he hwf b B4 N4 q7 hmm
  generalize w3.heap.size = B at P5' hCB ⊢
  go_wp2_with fail
  refine (new_any (some ⟨p, 0, none⟩) w4).mono ?_
  rintro e w5 ⟨rfl, hw⟩
  have hBw4 : B ≤ w4.heap.size := by have := P5'.out.dc.base; have := P5'.out.dc.lt (.inl rfl : foot p x p); omega
  have L6 : Hid (Lg w5 B w4.heap.size p (.slice none 0 0) []) := Lib.hid (by rw [hw]; exact Lg.new hBw4 p)
  have b : Below w4.heap.size w4 w5 := by rw [hw]; exact (Below.refl _ _).alloc (Nat.le_refl _) _
  have P6' := Lib.hid (P5'.out.below b)
  have B6 := Lib.hid (B5.out.trans (b.mono B5.out.size))
  have N6 := Lib.hid (N5.out.below b N5.out.lt)
  clear hw b P5' B5 N5 hBw4
  generalize w4.heap.size = g at L6 ⊢
  have a0 := N6.out.c0; have a1 := N6.out.c1; have a2 := N6.out.c2; have a3 := N6.out.c3; have a4 := N6.out.c4
  go_wp2_with fail
  refine (build_post t w5 B w.heap.size g p x _ [] par bef hCB WX.out (by omega) (by simp; omega) P6'.out.dc L6.out (HT.out.later B6.out (Nat.le_refl _)) HMF.out).mono ?_
  rintro e w6 h
  rcases h with ⟨hm0, rfl, b⟩ | ⟨hm0, x', vd', rs', rfl, ld, hx', hr'⟩
  · have L7 := Lib.hid (L6.out.below b)
    have B7 := Lib.hid (B6.out.trans (b.mono B6.out.size))
    have N7 := Lib.hid (N6.out.below b N6.out.lt)
    have HM0 := Lib.hid hm0
    clear b a0 a1 a2 a3 a4 L6 B6 N6 P6' hm0
    have a0 := N7.out.c0; have a1 := N7.out.c1; have a2 := N7.out.c2; have a3 := N7.out.c3; have a4 := N7.out.c4
    go_wp2_with fail
    refine (rmay8_any t w6 (HT.out.on B7.out) HMF.out (by have := HCT.out; omega)).mono ?_
    rintro e w7 ⟨rfl, b⟩
    rw [HM0.out]
    have L8 := Lib.hid (L7.out.below b)
    have B8 := Lib.hid (B7.out.trans (b.mono B7.out.size))
    clear b a0 a1 a2 a3 a4 L7 B7 N7
    go_wp2_with fail
    refine (all_any w7 (by simp) L8.out).mono ?_
    rintro e w8 ⟨A8, n8, c8, rs8, rfl, o8, hm8, hr8, b⟩
    obtain ⟨_, _, _, hv, hl8, _⟩ := own_r o8
    injection hv with e1 e2 e3
    obtain rfl : n8 = 0 := by rw [e2, ← hl8]; have := congrArg List.length hm8; simpa using this
    have B9 := Lib.hid (B8.out.trans (b.mono B8.out.size))
    clear b o8 hm8 hr8 hl8 e1 e2 e3
    go_wp2_with fail
    go_ret
    exact ⟨rfl, B9.out⟩
  have P7' := Lib.hid (P7.Par.ldid P6'.out L6.out ld)
  have L7 := Lib.hid ld.lg
  have N7 := Lib.hid (ldid_tb P6'.out.dc L6.out ld N6.out)
  have B7 : Hid (Below w.heap.size w w6) := Lib.hid (B6.out.trans ((ld.to_below P6'.out.dc L6.out).mono hCB))
  have HX := Lib.hid hx'
  have HRS := Lib.hid hr'
  have HM0 := Lib.hid hm0
  have hrl : rs'.length ≤ 1000 := by
    have h1 := congrArg List.length hr'
    have h2 := build_len (er t) x.d par bef
    simp at h1
    omega
  have WX' : Hid (WF x'.d) := Lib.hid (by rw [hx']; exact (build_keep (er t) x.d par bef).1 WX.out)
  have hxn' : x'.n ≤ 100000 := by
    have h1 := (build_keep (er t) x.d par bef).2.2.2
    rw [← hx'] at h1
    have h2 : x'.d.n = x'.n := rfl
    have h3 : x.d.n = x.n := rfl
    omega
  have hcod := (build_keep (er t) x.d par bef).2.1
  have hyn : y.n = x.n := by have h1 := congrArg D.n E5.out; exact h1.symm
  have CRB : Hid (∀ wz, Below w6.heap.size w6 wz → Calls Tryz.prog 12 #[.pointer (some ⟨q, 0, none⟩), .int .i64 par, .int .i64 bef, .agg #[.string t.tag, .string t.txt, .string t.key, .slice t.sa.A t.sa.n t.sa.c, .slice t.sk.A t.sk.n t.sk.c]] wz (RbuiltC wz B w.heap.size q y (buildP x.d par bef (er t)))) := Lib.hid (fun wz hz => by
    have := rbuild8_any t par bef wz B w.heap.size q y hCB (by rw [← E5.out]; exact WX.out) (by rw [hyn]; have := HCT.out; omega) (P7'.out.below hz).rf (HT.out.later (B7.out.trans (hz.mono B7.out.size)) (Nat.le_refl _)) HMF.out (by have := HCT.out; omega)
    rw [← E5.out] at this
    exact this)
  have HID : Hid (idP x.d par bef (er t) = if (buildP x.d par bef (er t)).err = 0 then y.n + 1 else 0) := Lib.hid (by unfold idP; rw [hyn]; rfl)
  obtain ⟨vi, hvi⟩ : ∃ v, idP x.d par bef (er t) = v := ⟨_, rfl⟩
  rw [hvi] at HID ⊢
  obtain ⟨rn, hrn⟩ : ∃ r, buildP x.d par bef (er t) = r := ⟨_, rfl⟩
  rw [hrn] at HX HRS CRB HID hcod ⊢
  obtain ⟨cd, hcd⟩ : ∃ z, rn.err = z := ⟨_, rfl⟩
  rw [hcd] at hcod HID ⊢
  have HCD := Lib.hid hcd
  obtain ⟨hcd0, hcd13⟩ := hcod
  have qcd : (cd != cd) = false := by simp
  have qvi : (vi != vi) = false := by simp
  clear hm0 ld hx' hr' hvi hrn hcd a0 a1 a2 a3 a4 L6 B6 N6 P6' hyn
  have a0 := N7.out.c0; have a1 := N7.out.c1; have a2 := N7.out.c2; have a3 := N7.out.c3; have a4 := N7.out.c4
  go_wp2_with fail
  refine (rmay8_any t w6 (HT.out.on B7.out) HMF.out (by have := HCT.out; omega)).mono ?_
  rintro e w7 ⟨rfl, b⟩
  rw [HM0.out]
  have CRB7 := Lib.hid (CRB.out w7 b)
  have L8 := Lib.hid (L7.out.below b)
  have P8' := Lib.hid (P7'.out.below b)
  have B8 := Lib.hid (B7.out.trans (b.mono B7.out.size))
  have N8 := Lib.hid (N7.out.below b N7.out.lt)
  clear b a0 a1 a2 a3 a4 L7 B7 N7 P7' CRB
  have a0 := N8.out.c0; have a1 := N8.out.c1; have a2 := N8.out.c2; have a3 := N8.out.c3; have a4 := N8.out.c4
  go_wp2_with fail
  refine CRB7.out.mono ?_
  rintro e w8 ⟨A8, n8, c8, y', ms, rfl, rd, hy', o8, hms, hri⟩
  rw [HCD.out, ← HID.out]
  have P9' := Lib.hid (P8'.out.rdid rd)
  have L9 := Lib.hid (L8.out.rdid P8'.out.rf rd)
  have B9 : Hid (Below w.heap.size w w8) := Lib.hid (B8.out.trans ((rd.to_below P8'.out.rf).mono hCB))
  have HY' := Lib.hid hy'
  have O9 := Lib.hid o8
  have HMS := Lib.hid hms
  have HRI := Lib.hid hri
  clear rd hy' o8 hms hri a0 a1 a2 a3 a4 L8 P8' B8 N8 CRB7 HID HCD
  go_wp2_with fail
  refine (codeV_any cd hcd0 hcd13 _).mono ?_
  rintro e w' ⟨rfl, rfl⟩
  go_wp2_with fail
  refine (all_any w8 hrl L9.out).mono ?_
  rintro e w9 ⟨A9, n9, c9, rs9, rfl, o9, hm9, hr9, b⟩
  have P10 := Lib.hid (P9'.out.below b)
  have B10 := Lib.hid (B9.out.trans (b.mono B9.out.size))
  obtain ⟨_, _, _, hv, hl9, _, _, _, hh9⟩ := own_r o9
  injection hv with e1 e2 e3
  subst e1; subst e2; subst e3
  obtain ⟨_, _, _, hv, hl8, _, _, _, hh8⟩ := own_r (O9.out.below b (Nat.le_refl _))
  injection hv with e1 e2 e3
  subst e1; subst e2; subst e3
  have hmm : rs9.map (·.r) = ms.map (·.r) := by rw [hm9, HRS.out, HMS.out]; simp
  obtain rfl : n9 = n8 := by rw [← hl9, ← hl8]; have := congrArg List.length hmm; simpa using this
  have hn9 : n9 ≤ 1000 := by have := congrArg List.length hm9; simp at this; omega
  have HL9 := Lib.hid hl9
  have HMM := Lib.hid hmm
  have HH9 := Lib.hid hh9
  have HH8 := Lib.hid hh8
  have HR9 : Hid (∀ a ∈ rs9, a.r.attrs.length = a.va.n ∧ a.va.n ≤ 1000000 ∧ kA.Holds w9 w9.heap.size a.va.A a.r.attrs) := Lib.hid (fun a ha => ⟨(hr9 a ha).att.len, (hr9 a ha).few, (hr9 a ha).att.holds⟩)
  have HR8 : Hid (∀ a ∈ ms, a.r.attrs.length = a.va.n ∧ kA.Holds w9 w9.heap.size a.va.A a.r.attrs) := Lib.hid (fun a ha => ⟨(HRI.out a ha).len, ((HRI.out a ha).holds.below b (by have := B9.out.size; omega)).more (by have := B10.out.size; omega)⟩)
  clear b o9 hm9 hr9 hl9 hl8 hh9 hh8 hmm O9 HRI L9 B9 P9'
  go_wp2_with fail
  refine (rrecs_eq rs9 ms A9 A8 n9 c9 c8 w9 HL9.out HMM.out hn9 HH9.out HH8.out HR9.out HR8.out).mono ?_
  rintro e w10 ⟨rfl, b⟩
  have P11 := Lib.hid (P10.out.below b)
  have B11 := Lib.hid (B10.out.trans (b.mono B10.out.size))
  have ED : Hid (x'.d = y'.d) := Lib.hid (by rw [HX.out, HY'.out])
  clear b P10 B10 HL9 HMM HH9 HH8 HR9 HR8
  go_wp2_with fail
  refine (same_any w10 WX'.out hxn' ED.out P11.out.dc P11.out.rf).mono ?_
  rintro e w11 ⟨rfl, b⟩
  have P12 := Lib.hid (P11.out.below b)
  have B12 := Lib.hid (B11.out.trans (b.mono B11.out.size))
  have EL : Hid (x'.l = y'.l) := Lib.hid (congrArg D.l ED.out)
  have WY' : Hid (WF y'.d) := Lib.hid (by rw [← ED.out]; exact WX'.out)
  have hyl : y'.rs.length ≤ 1000 := by have := WY'.out.len200; rw [show y'.d.l = y'.l from rfl, rl_len] at this; omega
  clear b P11 B11 HX HY' HRS HM0
  go_wp2_with fail
  refine (of_c w11 B p x' id WX'.out hxn' P12.out.dc).mono ?_
  rintro e w12 h
  rcases h with ⟨hid, tv, rfl, het, htk, b⟩ | ⟨hid, rfl, b⟩
  · -- the node is there
    have bb : Below w12.heap.size w12 (w12.alloc (.cells #[.string tv.tag, .string tv.txt, .string tv.key, .slice tv.sa.A tv.sa.n tv.sa.c, .slice tv.sk.A tv.sk.n tv.sk.c] 26)) := (Below.refl _ _).alloc (Nat.le_refl _) _
    have b13 := b.trans (bb.mono b.size)
    have P13 := Lib.hid (P12.out.below b13)
    have B13 := Lib.hid (B12.out.trans (b13.mono B12.out.size))
    have M13 : Hid (TB (w12.alloc (.cells #[.string tv.tag, .string tv.txt, .string tv.key, .slice tv.sa.A tv.sa.n tv.sa.c, .slice tv.sk.A tv.sk.n tv.sk.c] 26)) w12.heap.size tv) := Lib.hid (TB.new w12 tv)
    have T13 := Lib.hid (htk.on bb)
    have hidy : hasL y'.l id = true := by rw [← EL.out]; exact hid
    have HIDY := Lib.hid hidy
    have HET : Hid (er tv = treeP y'.l (y'.l.length + 1) id) := Lib.hid (by rw [het, EL.out])
    obtain ⟨hc200, hlow⟩ := treeP_all WY'.out hidy
    have HLW : Hid (countP (treeP y'.l (y'.l.length + 1) id) ≤ 200 ∧ lowP (treeP y'.l (y'.l.length + 1) id) = true) := Lib.hid ⟨hc200, hlow⟩
    clear b bb b13 P12 B12 htk het hid hidy hc200 hlow
    go_upto_region 18 with fail
    generalize w12.alloc (.cells #[.string tv.tag, .string tv.txt, .string tv.key, .slice tv.sa.A tv.sa.n tv.sa.c, .slice tv.sk.A tv.sk.n tv.sk.c] 26) = W at P13 B13 M13 T13 ⊢
    generalize w12.heap.size = s21 at M13 ⊢
    obtain ⟨k, hk, hyk, _⟩ := rplace WY'.out.asc HIDY.out
    have HYK := Lib.hid hyk
    clear hyk
    go_wp2_with fail
    refine (at_yes id W WY'.out.asc hyl hk HYK.out P13.out.rf).mono ?_
    rintro e w' ⟨rfl, rfl⟩
    have qk : decide ((k : Int) < 0) = false := by simp
    have SKEEP : Hid (∀ w', Below W.heap.size W w' → (w'.cell? ⟨s21, 0, none⟩ = some (.string tv.tag) ∧ w'.cell? ⟨s21, 1, none⟩ = some (.string tv.txt) ∧ w'.cell? ⟨s21, 2, none⟩ = some (.string tv.key) ∧ w'.cell? ⟨s21, 3, none⟩ = some (.slice tv.sa.A tv.sa.n tv.sa.c) ∧ w'.cell? ⟨s21, 4, none⟩ = some (.slice tv.sk.A tv.sk.n tv.sk.c))) := Lib.hid (fun w' h => ⟨(M13.out.below h M13.out.lt).c0, (M13.out.below h M13.out.lt).c1, (M13.out.below h M13.out.lt).c2, (M13.out.below h M13.out.lt).c3, (M13.out.below h M13.out.lt).c4⟩)
    have BW : Hid (Below W.heap.size W W) := Lib.hid (Below.refl _ _)
    have CF : Hid (∀ w9, Below W.heap.size W w9 → Calls Tryz.prog 19 #[.pointer (some ⟨q, 0, none⟩), .int .i64 id] w9 (RTold w9 (treeP y'.l (y'.l.length + 1) id))) := Lib.hid (fun w9 h9 => rof_c w9 id WY'.out HIDY.out (P13.out.below h9).rf)
    have CS : Hid (∀ w9 tw, Below W.heap.size W w9 → TOk w9 w9.heap.size tw → er tw = treeP y'.l (y'.l.length + 1) id → Calls Tryz.prog 18 #[.agg #[.string tv.tag, .string tv.txt, .string tv.key, .slice tv.sa.A tv.sa.n tv.sa.c, .slice tv.sk.A tv.sk.n tv.sk.c], .agg #[.string tw.tag, .string tw.txt, .string tw.key, .slice tw.sa.A tw.sa.n tw.sa.c, .slice tw.sk.A tw.sk.n tw.sk.c]] w9 fun e w' => e = .returned (.bool true) ∧ Below w9.heap.size w9 w') := Lib.hid (fun w9 tw h9 h1 h2 => by
      have := rsame8_low tv tw w9 (T13.out.on h9) h1 (by rw [HET.out]; exact HLW.out.2) (by rw [h2]; exact HLW.out.2) (by rw [HET.out]; have := HLW.out.1; omega) (by rw [h2]; have := HLW.out.1; omega)
      rw [HET.out, h2, sameP_refl] at this
      exact this)
    have a0 := M13.out.c0; have a1 := M13.out.c1; have a2 := M13.out.c2; have a3 := M13.out.c3; have a4 := M13.out.c4
    clear M13 T13 HET HLW HYK P13
    go_wp2_with fail
    go_region_held3 (fun w' => w'.cell? ⟨s21, 0, none⟩ = some (.string tv.tag) ∧ w'.cell? ⟨s21, 1, none⟩ = some (.string tv.txt) ∧ w'.cell? ⟨s21, 2, none⟩ = some (.string tv.key) ∧ w'.cell? ⟨s21, 3, none⟩ = some (.slice tv.sa.A tv.sa.n tv.sa.c) ∧ w'.cell? ⟨s21, 4, none⟩ = some (.slice tv.sk.A tv.sk.n tv.sk.c)) (first | go_keep | exact SK) ((first
      | (go_at_call 19; refine (CF.out _ (by first | exact BW.out | exact Below_drewN BW.out _)).mono ?_; rintro e w5 ⟨tw, rfl, hwe, hwn, b5⟩; have BW : Hid (Below W.heap.size W w5) := Lib.hid (by first | exact BW.out.trans (b5.mono BW.out.size) | exact (Below_drewN BW.out _).trans (b5.mono BW.out.size)); have SK := SKEEP.out w5 BW.out; have TW := Lib.hid hwn; have EW := Lib.hid hwe; clear b5 hwn hwe)
      | (go_at_call 18; refine (CS.out _ tw (by first | exact BW.out | exact Below_drewN BW.out _) (by first | exact TW.out.ok | exact (TW.out.later (Below_drewN (Below.refl _ _) _)).ok) EW.out).mono ?_; rintro e w5 ⟨rfl, b5⟩; have BW : Hid (Below W.heap.size W w5) := Lib.hid (by first | exact BW.out.trans (b5.mono BW.out.size) | exact (Below_drewN BW.out _).trans (b5.mono BW.out.size)); have SK := SKEEP.out w5 BW.out; clear b5)
      | fail))
    all_goals
      go_wp2_with fail
      go_ret
      exact ⟨rfl, B13.out.trans (BW.out.mono B13.out.size)⟩
  · -- it isn't
    have bb : Below w12.heap.size w12 (w12.alloc (.cells #[.string ⟨#[]⟩, .string ⟨#[]⟩, .string ⟨#[]⟩, .slice none 0 0, .slice none 0 0] 26)) := (Below.refl _ _).alloc (Nat.le_refl _) _
    have b13 := b.trans (bb.mono b.size)
    have P13 := Lib.hid (P12.out.below b13)
    have B13 := Lib.hid (B12.out.trans (b13.mono B12.out.size))
    have M13 : Hid (TB (w12.alloc (.cells #[.string ⟨#[]⟩, .string ⟨#[]⟩, .string ⟨#[]⟩, .slice none 0 0, .slice none 0 0] 26)) w12.heap.size zTV) := Lib.hid (TB.new w12 zTV)
    have HIDY : Hid (hasL y'.l id = false) := Lib.hid (by rw [← EL.out]; exact hid)
    clear b bb b13 P12 B12 hid
    go_upto_region 18 with fail
    generalize w12.alloc (.cells #[.string ⟨#[]⟩, .string ⟨#[]⟩, .string ⟨#[]⟩, .slice none 0 0, .slice none 0 0] 26) = W at P13 B13 M13 ⊢
    generalize w12.heap.size = s21 at M13 ⊢
    go_wp2_with fail
    refine (at_no id W hyl HIDY.out P13.out.rf).mono ?_
    rintro e w' ⟨rfl, rfl⟩
    have CS : Hid (Calls Tryz.prog 18 #[.agg #[.string ⟨#[]⟩, .string ⟨#[]⟩, .string ⟨#[]⟩, .slice none 0 0, .slice none 0 0], .agg #[.string ⟨#[]⟩, .string ⟨#[]⟩, .string ⟨#[]⟩, .slice none 0 0, .slice none 0 0]] W fun e w' => e = .returned (.bool true) ∧ Below W.heap.size W w') := Lib.hid (by
      have hz : ∀ w9 : World, TOk w9 w9.heap.size zTV := fun w9 => ⟨rfl, Nat.le_refl _, fun _ => rfl, Kind.Holds.nil _ _ _, rfl, Nat.le_refl _, fun _ => rfl, Kind.Holds.nil _ _ _, fun k hk => by cases hk⟩
      have hl : lowP (er zTV) = true := by simp [zTV, er, erL, lowP, lowL]
      have hc : countP (er zTV) ≤ 1000 := by simp [zTV, er, erL, countP, countL]
      have := rsame8_low zTV zTV W (hz W) (hz W) hl hl hc hc
      rw [sameP_refl] at this
      exact this)
    have a0 := M13.out.c0; have a1 := M13.out.c1; have a2 := M13.out.c2; have a3 := M13.out.c3; have a4 := M13.out.c4
    simp only [TV.tag, TV.txt, TV.key, TV.sa, TV.sk, zTV] at a0 a1 a2 a3 a4
    go_wp2_with fail
    refine CS.out.mono ?_
    rintro e w13 ⟨rfl, b⟩
    have B14 := Lib.hid (B13.out.trans (b.mono B13.out.size))
    clear b
    go_wp2_with fail
    go_ret
    exact ⟨rfl, B14.out⟩
end Go.Proofs.YtkagaobelhpojaaGreat.P8
