/- A node that is put, and stands; put as a whole. -/
import Derived.Test.YtihjdmdafiifhaaGreatM13
set_option linter.unusedVariables false
set_option linter.unusedSimpArgs false
set_option linter.unusedVariables false
set_option linter.unusedSimpArgs false
namespace Go.Proofs.YtihjdmdafiifhaaGreat.P5
open Go.RowKit Kd P4
variable {B p : Nat} {x : Dx}

theorem ins_end (i : Int) (l : List Int) : l.take l.length ++ i :: l.drop l.length = insA i 0 l := by
  unfold insA; rw [if_pos rfl]; simp
theorem ins_at : ∀ {l : List Int} {b : Int} (i : Int), b ∈ l → l.Nodup → b ≠ 0 → l.take (idxA l b) ++ i :: l.drop (idxA l b) = insA i b l
  | [], _, _, h, _, _ => absurd h (by simp)
  | a :: r, b, i, h, hn, h0 => by
    obtain ⟨h1, h2⟩ := List.nodup_cons.1 hn
    unfold insA
    rw [if_neg h0, List.flatMap_cons]
    by_cases e : b = a
    · subst e
      have : r.flatMap (fun c => if c = b then [i, c] else [c]) = r := by
        have : ∀ m : List Int, b ∉ m → m.flatMap (fun c => if c = b then [i, c] else [c]) = m := by
          intro m
          induction m with
          | nil => intro _; rfl
          | cons c m ih =>
            intro hm
            simp only [List.mem_cons, not_or] at hm
            rw [List.flatMap_cons, if_neg (Ne.symm hm.1), ih hm.2]
            rfl
        exact this r h1
      rw [this]
      simp [idxA]
    · have ih := ins_at i ((List.mem_cons.1 h).resolve_left e) h2 h0
      unfold insA at ih
      rw [if_neg h0] at ih
      rw [if_neg (Ne.symm e), ← ih]
      simp [idxA, e]
theorem put_mid {w w7 : World} {y : Dx} {m : Nat} {q : Int} (h : Dc w B p y) (hm : m < y.rs.length) (hym : y.rs[m].nd.id = q) {f : List Int → List Int} {A7 : Option Addr} {n7 c7 : Nat}
    (hb : But (fun g => y.rs[m].vk.val.ownBlock = some g) w w7) (ho : kI.Own w7 B (.slice A7 n7 c7) (f y.rs[m].nd.kids)) (hv : ∀ g, (Value.slice A7 n7 c7).ownBlock = some g → y.rs[m].vk.val.ownBlock = some g ∨ w.heap.size ≤ g) :
    ∃ rs2 : List Rw, Did w B p y { y with rs := rs2 } (w7.setCell ⟨y.rs[m].b, 6, none⟩ (.slice A7 n7 c7)) ∧ rs2.map (·.nd) = upd y.l q (withKids f) ∧ rs2.map slotOf = y.rs.map slotOf := by
  obtain ⟨r1, hr1⟩ : ∃ r1 : Rw, r1 = ⟨y.rs[m].b, y.rs[m].va, ⟨A7, n7, c7⟩, withKids f y.rs[m].nd⟩ := ⟨_, rfl⟩
  have hd := h.kids_ hm (r := r1) (f := f) (w' := w7) (by rw [hr1]) (by rw [hr1]) (by rw [hr1]) hb (by rw [hr1]; exact ho) (fun g hg => hv g (by rw [hr1] at hg; exact hg))
  have hv1 : r1.vk.val = .slice A7 n7 c7 := by rw [hr1]; rfl
  rw [hv1] at hd
  have e2 := put_l h hm (r := r1) (f := withKids f) (by rw [hr1])
  rw [hym] at e2
  exact ⟨(y.put m r1).rs, hd, e2, put_slots (x := y) hm (r := r1) (by rw [hr1]) (by rw [hr1]; rfl)⟩
theorem put_fin {w : World} {y : Dx} {k : Nat} {i : Int} (q : Int) (h : Dc w B p y) (hk : k < y.rs.length) (hy : y.rs[k].nd.id = i) :
    ∃ rs3 : List Rw, Did w B p y { y with rs := rs3 } (w.setCell ⟨y.rs[k].b, 1, none⟩ (.int .i64 q)) ∧ rs3.map (·.nd) = upd y.l i (withPar q) := by
  have hd := h.cell_ hk (r := ⟨y.rs[k].b, y.rs[k].va, y.rs[k].vk, withPar q y.rs[k].nd⟩) rfl rfl rfl rfl (h.nd hk).att (i := 1) (u := .int .i64 q) rfl
  have e := put_l h hk (r := ⟨y.rs[k].b, y.rs[k].va, y.rs[k].vk, withPar q y.rs[k].nd⟩) (f := withPar q) rfl
  rw [hy] at e
  exact ⟨_, hd, e⟩
theorem kids_some {w : World} {y : Dx} {m : Nat} {q : Int} (h : Dc w B p y) (hm : m < y.rs.length) (hy : y.rs[m].nd.id = q) : kidsOf y.l q = y.rs[m].nd.kids := (tag_at h hm hy).2.2

set_option maxHeartbeats 1000000 in
theorem put_ok0 (i q b : Int) (w : World) (hi : hasL x.l i = true) (hp : hasL x.l q = true) (hq : (b != 0) = false) (h1 : (i == 1) = false) (ht : (tagOf x.l q).toList.isEmpty = false) (hv : P1.voidB (tagOf x.l q).data.toList = false) (hwf : WF x.d) (hin : inside x.l q i = false) (hok : PutOk x.l i q b) (h : Dc w B p x) : Calls Tryz.prog 28 #[.pointer (some ⟨p, 0, none⟩), .int .i64 i, .int .i64 q, .int .i64 b] w (Made w B p x .nilIface { x.d with l := putL x.l i q b }) := by
  have B0 := Lib.hid (Below.refl w.heap.size w)
  have H0 := Lib.hid h
  have PK : Hid (PutOk x.l i q b) := Lib.hid hok
  obtain ⟨m, hm, hym, _⟩ := h.place hp
  obtain ⟨tg, htg⟩ : ∃ tg, x.rs[m].nd.tag = tg := ⟨_, rfl⟩
  have htag : tg = tagOf x.l q := by rw [(tag_at h hm hym).1, htg]
  obtain ⟨bm, hbm⟩ : ∃ bm, x.rs[m].b = bm := ⟨_, rfl⟩
  rw [← htag] at ht
  rw [← htag] at hv
  obtain ⟨k, hk, hyk, _⟩ := h.place hi
  obtain ⟨bk, hbk⟩ : ∃ bk, x.rs[k].b = bk := ⟨_, rfl⟩
  have hTr : Tr (fun y => hasL x.l y = true) (parOf x.l) (kidsOf x.l) := hwf.tr
  have HT1 := Lib.hid (leave_tr (i := i) hTr)
  have BF := Lib.hid (leave_bef hTr hok)
  have hR : x.rs.length ≤ 200 := by have h1 := h.ar.len; have h2 := h.ar.room; rw [List.length_map] at h1; omega
  have HI := Lib.hid hi
  have HP := Lib.hid hp
  have HYM := Lib.hid hym
  have HTG := Lib.hid htg
  have HBM := Lib.hid hbm
  have HV := Lib.hid hv
  have HWF := Lib.hid hwf
  have HIN := Lib.hid hin
  have HYK := Lib.hid hyk
  have HBK := Lib.hid hbk
  clear h hi hp hym htg htag hbm hv hwf hin hyk hbk hok hTr
  go_enter Tryz.func28, Tryz.ntmps28
  go_wp2_with fail
  refine (has_at i w HI.out H0.out).mono ?_
  rintro e w1 ⟨rfl, bb⟩
  have B1 := Lib.hid (B0.out.trans (bb.mono B0.out.size))
  have H1 := Lib.hid (H0.out.below bb)
  clear bb
  go_wp2_with fail
  refine (has_at q w1 HP.out H1.out).mono ?_
  rintro e w2 ⟨rfl, bb⟩
  have B2 := Lib.hid (B1.out.trans (bb.mono B1.out.size))
  have H2 := Lib.hid (H1.out.below bb)
  clear bb
  go_wp2_with fail
  refine (node_at q w2 hm HYM.out HBM.out H2.out).mono ?_
  rintro e w3 ⟨rfl, bb⟩
  have B3 := Lib.hid (B2.out.trans (bb.mono B2.out.size))
  have H3 := Lib.hid (H2.out.below bb)
  have d2 : w3.cell? ⟨bm, 2, none⟩ = some (.string tg) := by have := (H3.out.nd hm).c2; rwa [HBM.out, HTG.out] at this
  clear bb
  go_wp2_with fail
  refine (void_at tg w3 HV.out).mono ?_
  rintro e w' ⟨rfl, rfl⟩
  go_wp2_with fail
  refine (inside_at q i w3 HIN.out HWF.out HP.out HI.out H3.out).mono ?_
  rintro e w4 ⟨rfl, bb⟩
  have B4 := Lib.hid (B3.out.trans (bb.mono B3.out.size))
  have H4 := Lib.hid (H3.out.below bb)
  clear bb
  go_wp2_with fail
  refine (leave_any i w4 HWF.out HI.out H4.out).mono ?_
  rintro e wl ⟨rfl, rs1, dl, hl1, hl2⟩
  have DL := Lib.hid ((Did.below_ H0.out B4.out).trans dl)
  have L1 := Lib.hid hl1
  have L2 := Lib.hid hl2
  have HX := Lib.hid dl.dc
  obtain ⟨hm1, em1, em2⟩ := slots_at hl2 hm
  have EM1 : Hid (rs1[m].nd.id = q) := Lib.hid (em1.trans HYM.out)
  have EM2 : Hid (rs1[m].b = bm) := Lib.hid (em2.trans HBM.out)
  have EK : Hid (kidsOf (leaveL x.l i) q = rs1[m].nd.kids) := Lib.hid (by rw [← hl1]; exact kids_some dl.dc hm1 EM1.out)
  have ND : Hid (rs1[m].nd.kids.Nodup) := Lib.hid (by rw [← EK.out]; exact HT1.out.nod q)
  have hkl : rs1[m].nd.kids.length ≤ 1000000 := by
    have h1 := nodup_len rs1[m].nd.kids (idsOf (leaveL x.l i)) ND.out (fun c hc => has_ids.1 (HT1.out.kid q c (by rw [EK.out]; exact hc)).2.1)
    rw [leave_ids] at h1
    simp only [idsOf, List.length_map, Dx.l] at h1
    omega
  obtain ⟨⟨A6, n6, c6⟩, hv6⟩ : ∃ v, rs1[m].vk = v := ⟨_, rfl⟩
  have OW : Hid (kI.Own wl B (.slice A6 n6 c6) rs1[m].nd.kids) := Lib.hid (by have := (dl.dc.nd hm1).kids; rw [hv6] at this; exact this)
  have V6 : Hid (rs1[m].vk.val = .slice A6 n6 c6) := Lib.hid (by rw [hv6]; rfl)
  obtain ⟨g1, g2, g3, g4, g5⟩ := own_nil_zero OW.out rfl
  have HL6 := Lib.hid g1
  have HH6 := Lib.hid g5
  have d6 : wl.cell? ⟨bm, 6, none⟩ = some (.slice A6 n6 c6) := by have := (dl.dc.nd hm1).c6; rwa [EM2.out, V6.out] at this
  have hBl : B ≤ wl.heap.size := by have h1 := dl.dc.base; have h2 := dl.dc.lt (.inl rfl : foot p { x with rs := rs1 } p); omega
  have hn6 : n6 ≤ 1000000 := by omega
  have hbl : bm < wl.heap.size := by have := (dl.dc.nd hm1).lt; rwa [EM2.out] at this
  clear dl hl1 hl2 em1 em2 hv6 g1 g2 g3 g4 g5 d2
  go_wp2_with fail
  have b0 : b = 0 := by simpa using hq
  have B00 := Lib.hid b0
  clear b0
  refine (insert_any rs1[m].nd.kids i n6 (B := B) (vb := wl.heap.size) (v := .slice A6 n6 c6) (wl.alloc (.cells #[.int .i64 i] 3)) (by rw [HL6.out]; exact Nat.le_refl _) hkl (by simp; omega) (OW.out.alloc _) (heap_alloc_new wl _) (fun e => by have := (OW.out.lt e).2; omega)).mono ?_
  rintro e w7 ⟨A7, n7, c7, rfl, o7, b7, hv7⟩
  have O7 : Hid (kI.Own w7 B (.slice A7 n7 c7) (insA i b rs1[m].nd.kids)) := Lib.hid (by have := ins_end i rs1[m].nd.kids; rw [HL6.out] at this; rw [B00.out]; rw [this] at o7; exact o7)
  have B7 : Hid (But (fun g => rs1[m].vk.val.ownBlock = some g) wl w7) := Lib.hid (by rw [V6.out]; exact But.trans (But.alloc (But.refl (fun g => (Value.slice A6 n6 c6).ownBlock = some g) wl) _) b7 (fun _ _ h => h))
  have V7 : Hid (∀ g, (Value.slice A7 n7 c7).ownBlock = some g → rs1[m].vk.val.ownBlock = some g ∨ wl.heap.size ≤ g) := Lib.hid (by intro g hg; rw [V6.out]; rcases hv7 g hg with e | e; (exact .inl e); (simp at e; exact .inr (by omega)))
  have k7 : w7.heap[bm]? = wl.heap[bm]? := B7.out.block _ hbl (fun e => by
    obtain ⟨d, hd⟩ := (HX.out.nd hm1).kids.ty e
    have := (HX.out.nd hm1).blk
    rw [EM2.out] at this
    exact heap_ne hd this (by decide) rfl)
  have e6 : w7.cell? ⟨bm, 6, none⟩ = some (.slice A6 n6 c6) := (World.cell?_of_block k7).trans d6
  have f6 : w7.frozen? ⟨bm, 6, none⟩ = false := by have h1 := (HX.out.nd hm1).blk; rw [EM2.out] at h1; have hb := k7.trans h1; simp [World.frozen?, hb]
  clear o7 b7 hv7 d6 k7
  go_wp2_with fail
  obtain ⟨rs2, hd2, hl2, hs2⟩ := put_mid HX.out hm1 EM1.out B7.out O7.out V7.out
  have EQB : Hid (rs1[m].b = bm) := EM2
  have D2 : Hid (Did wl B p { x with rs := rs1 } { x with rs := rs2 } (w7.setCell ⟨bm, 6, none⟩ (.slice A7 n7 c7))) := Lib.hid (by rw [← EM2.out]; exact hd2)
  have L3 : Hid (rs2.map (·.nd) = upd (leaveL x.l i) q (withKids (insA i b))) := Lib.hid (by rw [← L1.out]; exact hl2)
  obtain ⟨hk2, ek1, ek2⟩ := slots_at (hs2.trans L2.out) hk
  have EK1 : Hid (rs2[k].nd.id = i) := Lib.hid (ek1.trans HYK.out)
  have EK2 : Hid (rs2[k].b = bk) := Lib.hid (ek2.trans HBK.out)
  clear hd2 hl2 hs2 ek1 ek2 e6 f6
  generalize w7.setCell ⟨bm, 6, none⟩ (.slice A7 n7 c7) = W at D2 ⊢
  refine (node_at (x := { x with rs := rs2 }) i W hk2 EK1.out EK2.out D2.out.dc).mono ?_
  rintro e w8 ⟨rfl, b8⟩
  have D8 := Lib.hid (D2.out.below b8)
  have H8 := Lib.hid (D2.out.dc.below b8)
  obtain ⟨pv, hpv⟩ : ∃ pv, rs2[k].nd.par = pv := ⟨_, rfl⟩
  have d1 : w8.cell? ⟨bk, 1, none⟩ = some (.int .i64 pv) := by have := (H8.out.nd hk2).c1; rw [EK2.out, hpv] at this; exact this
  have f1 : w8.frozen? ⟨bk, 1, none⟩ = false := by have := (H8.out.nd hk2).frozen 1; rw [EK2.out] at this; exact this
  clear b8 hpv
  go_wp2_with fail
  go_ret
  obtain ⟨rs3, hd3, hl3⟩ := put_fin q H8.out hk2 EK1.out
  rw [EK2.out] at hd3
  refine ⟨rfl, _, (DL.out.trans D8.out).trans hd3, ?_⟩
  show D.mk (rs3.map (·.nd)) x.n x.R x.foc = D.mk (putL x.l i q b) x.n x.R x.foc
  rw [hl3]
  show D.mk (upd (rs2.map (·.nd)) i (withPar q)) _ _ _ = _
  rw [L3.out]
  rfl
set_option maxHeartbeats 1000000 in
theorem put_ok1 (i q b : Int) (w : World) (hi : hasL x.l i = true) (hp : hasL x.l q = true) (hq : (b != 0) = true) (hb : hasL x.l b = true) (hbi : (b == i) = false) (hpar : (parOf x.l b != q) = false) (h1 : (i == 1) = false) (ht : (tagOf x.l q).toList.isEmpty = false) (hv : P1.voidB (tagOf x.l q).data.toList = false) (hwf : WF x.d) (hin : inside x.l q i = false) (hok : PutOk x.l i q b) (h : Dc w B p x) : Calls Tryz.prog 28 #[.pointer (some ⟨p, 0, none⟩), .int .i64 i, .int .i64 q, .int .i64 b] w (Made w B p x .nilIface { x.d with l := putL x.l i q b }) := by
  have B0 := Lib.hid (Below.refl w.heap.size w)
  have H0 := Lib.hid h
  have PK : Hid (PutOk x.l i q b) := Lib.hid hok
  obtain ⟨m, hm, hym, _⟩ := h.place hp
  obtain ⟨tg, htg⟩ : ∃ tg, x.rs[m].nd.tag = tg := ⟨_, rfl⟩
  have htag : tg = tagOf x.l q := by rw [(tag_at h hm hym).1, htg]
  obtain ⟨bm, hbm⟩ : ∃ bm, x.rs[m].b = bm := ⟨_, rfl⟩
  rw [← htag] at ht
  rw [← htag] at hv
  obtain ⟨j, hj, hyj, _⟩ := h.place hb
  obtain ⟨pb, hpb⟩ : ∃ pb, x.rs[j].nd.par = pb := ⟨_, rfl⟩
  rw [(tag_at h hj hyj).2.1, hpb] at hpar
  obtain ⟨bj, hbj⟩ : ∃ bj, x.rs[j].b = bj := ⟨_, rfl⟩
  obtain ⟨k, hk, hyk, _⟩ := h.place hi
  obtain ⟨bk, hbk⟩ : ∃ bk, x.rs[k].b = bk := ⟨_, rfl⟩
  have hTr : Tr (fun y => hasL x.l y = true) (parOf x.l) (kidsOf x.l) := hwf.tr
  have HT1 := Lib.hid (leave_tr (i := i) hTr)
  have BF := Lib.hid (leave_bef hTr hok)
  have hR : x.rs.length ≤ 200 := by have h1 := h.ar.len; have h2 := h.ar.room; rw [List.length_map] at h1; omega
  have HI := Lib.hid hi
  have HP := Lib.hid hp
  have HB := Lib.hid hb
  have HYJ := Lib.hid hyj
  have HPB := Lib.hid hpb
  have HBJ := Lib.hid hbj
  have HYM := Lib.hid hym
  have HTG := Lib.hid htg
  have HBM := Lib.hid hbm
  have HV := Lib.hid hv
  have HWF := Lib.hid hwf
  have HIN := Lib.hid hin
  have HYK := Lib.hid hyk
  have HBK := Lib.hid hbk
  clear h hi hp hym htg htag hbm hv hwf hin hyk hbk hok hTr hb hyj hpb hbj
  go_enter Tryz.func28, Tryz.ntmps28
  go_wp2_with fail
  refine (has_at i w HI.out H0.out).mono ?_
  rintro e w1 ⟨rfl, bb⟩
  have B1 := Lib.hid (B0.out.trans (bb.mono B0.out.size))
  have H1 := Lib.hid (H0.out.below bb)
  clear bb
  go_wp2_with fail
  refine (has_at q w1 HP.out H1.out).mono ?_
  rintro e w2 ⟨rfl, bb⟩
  have B2 := Lib.hid (B1.out.trans (bb.mono B1.out.size))
  have H2 := Lib.hid (H1.out.below bb)
  clear bb
  go_wp2_with fail
  refine (has_at b w2 HB.out H2.out).mono ?_
  rintro e w3 ⟨rfl, bb⟩
  have B3 := Lib.hid (B2.out.trans (bb.mono B2.out.size))
  have H3 := Lib.hid (H2.out.below bb)
  clear bb
  go_wp2_with fail
  refine (node_at q w3 hm HYM.out HBM.out H3.out).mono ?_
  rintro e w4 ⟨rfl, bb⟩
  have B4 := Lib.hid (B3.out.trans (bb.mono B3.out.size))
  have H4 := Lib.hid (H3.out.below bb)
  have d2 : w4.cell? ⟨bm, 2, none⟩ = some (.string tg) := by have := (H4.out.nd hm).c2; rwa [HBM.out, HTG.out] at this
  clear bb
  go_wp2_with fail
  refine (void_at tg w4 HV.out).mono ?_
  rintro e w' ⟨rfl, rfl⟩
  go_wp2_with fail
  refine (node_at b w4 hj HYJ.out HBJ.out H4.out).mono ?_
  rintro e w5 ⟨rfl, bb⟩
  have B5 := Lib.hid (B4.out.trans (bb.mono B4.out.size))
  have H5 := Lib.hid (H4.out.below bb)
  have d1 : w5.cell? ⟨bj, 1, none⟩ = some (.int .i64 pb) := by have := (H5.out.nd hj).c1; rwa [HBJ.out, HPB.out] at this
  clear bb
  go_wp2_with fail
  refine (inside_at q i w5 HIN.out HWF.out HP.out HI.out H5.out).mono ?_
  rintro e w6 ⟨rfl, bb⟩
  have B6 := Lib.hid (B5.out.trans (bb.mono B5.out.size))
  have H6 := Lib.hid (H5.out.below bb)
  clear bb
  go_wp2_with fail
  refine (leave_any i w6 HWF.out HI.out H6.out).mono ?_
  rintro e wl ⟨rfl, rs1, dl, hl1, hl2⟩
  have DL := Lib.hid ((Did.below_ H0.out B6.out).trans dl)
  have L1 := Lib.hid hl1
  have L2 := Lib.hid hl2
  have HX := Lib.hid dl.dc
  obtain ⟨hm1, em1, em2⟩ := slots_at hl2 hm
  have EM1 : Hid (rs1[m].nd.id = q) := Lib.hid (em1.trans HYM.out)
  have EM2 : Hid (rs1[m].b = bm) := Lib.hid (em2.trans HBM.out)
  have EK : Hid (kidsOf (leaveL x.l i) q = rs1[m].nd.kids) := Lib.hid (by rw [← hl1]; exact kids_some dl.dc hm1 EM1.out)
  have ND : Hid (rs1[m].nd.kids.Nodup) := Lib.hid (by rw [← EK.out]; exact HT1.out.nod q)
  have hkl : rs1[m].nd.kids.length ≤ 1000000 := by
    have h1 := nodup_len rs1[m].nd.kids (idsOf (leaveL x.l i)) ND.out (fun c hc => has_ids.1 (HT1.out.kid q c (by rw [EK.out]; exact hc)).2.1)
    rw [leave_ids] at h1
    simp only [idsOf, List.length_map, Dx.l] at h1
    omega
  obtain ⟨⟨A6, n6, c6⟩, hv6⟩ : ∃ v, rs1[m].vk = v := ⟨_, rfl⟩
  have OW : Hid (kI.Own wl B (.slice A6 n6 c6) rs1[m].nd.kids) := Lib.hid (by have := (dl.dc.nd hm1).kids; rw [hv6] at this; exact this)
  have V6 : Hid (rs1[m].vk.val = .slice A6 n6 c6) := Lib.hid (by rw [hv6]; rfl)
  obtain ⟨g1, g2, g3, g4, g5⟩ := own_nil_zero OW.out rfl
  have HL6 := Lib.hid g1
  have HH6 := Lib.hid g5
  have d6 : wl.cell? ⟨bm, 6, none⟩ = some (.slice A6 n6 c6) := by have := (dl.dc.nd hm1).c6; rwa [EM2.out, V6.out] at this
  have hBl : B ≤ wl.heap.size := by have h1 := dl.dc.base; have h2 := dl.dc.lt (.inl rfl : foot p { x with rs := rs1 } p); omega
  have hn6 : n6 ≤ 1000000 := by omega
  have hbl : bm < wl.heap.size := by have := (dl.dc.nd hm1).lt; rwa [EM2.out] at this
  clear dl hl1 hl2 em1 em2 hv6 g1 g2 g3 g4 g5 d2 d1
  go_wp2_with fail
  have BIN : Hid (b ∈ rs1[m].nd.kids) := Lib.hid (by rw [← EK.out]; exact BF.out.resolve_left (by simpa using hq))
  refine (index_any rs1[m].nd.kids b A6 n6 c6 wl HL6.out hn6 BIN.out HH6.out).mono ?_
  rintro e w' ⟨rfl, rfl⟩
  have BZ : Hid (b ≠ 0) := Lib.hid (by simpa using hq)
  go_wp2_with fail
  refine (insert_any rs1[m].nd.kids i (idxA rs1[m].nd.kids b) (B := B) (vb := wl.heap.size) (v := .slice A6 n6 c6) (wl.alloc (.cells #[.int .i64 i] 3)) (idxA_le _ _) hkl (by simp; omega) (OW.out.alloc _) (heap_alloc_new wl _) (fun e => by have := (OW.out.lt e).2; omega)).mono ?_
  rintro e w7 ⟨A7, n7, c7, rfl, o7, b7, hv7⟩
  have O7 : Hid (kI.Own w7 B (.slice A7 n7 c7) (insA i b rs1[m].nd.kids)) := Lib.hid (by rw [ins_at i BIN.out ND.out BZ.out] at o7; exact o7)
  have B7 : Hid (But (fun g => rs1[m].vk.val.ownBlock = some g) wl w7) := Lib.hid (by rw [V6.out]; exact But.trans (But.alloc (But.refl (fun g => (Value.slice A6 n6 c6).ownBlock = some g) wl) _) b7 (fun _ _ h => h))
  have V7 : Hid (∀ g, (Value.slice A7 n7 c7).ownBlock = some g → rs1[m].vk.val.ownBlock = some g ∨ wl.heap.size ≤ g) := Lib.hid (by intro g hg; rw [V6.out]; rcases hv7 g hg with e | e; (exact .inl e); (simp at e; exact .inr (by omega)))
  have k7 : w7.heap[bm]? = wl.heap[bm]? := B7.out.block _ hbl (fun e => by
    obtain ⟨d, hd⟩ := (HX.out.nd hm1).kids.ty e
    have := (HX.out.nd hm1).blk
    rw [EM2.out] at this
    exact heap_ne hd this (by decide) rfl)
  have e6 : w7.cell? ⟨bm, 6, none⟩ = some (.slice A6 n6 c6) := (World.cell?_of_block k7).trans d6
  have f6 : w7.frozen? ⟨bm, 6, none⟩ = false := by have h1 := (HX.out.nd hm1).blk; rw [EM2.out] at h1; have hb := k7.trans h1; simp [World.frozen?, hb]
  clear o7 b7 hv7 d6 k7
  go_wp2_with fail
  obtain ⟨rs2, hd2, hl2, hs2⟩ := put_mid HX.out hm1 EM1.out B7.out O7.out V7.out
  have EQB : Hid (rs1[m].b = bm) := EM2
  have D2 : Hid (Did wl B p { x with rs := rs1 } { x with rs := rs2 } (w7.setCell ⟨bm, 6, none⟩ (.slice A7 n7 c7))) := Lib.hid (by rw [← EM2.out]; exact hd2)
  have L3 : Hid (rs2.map (·.nd) = upd (leaveL x.l i) q (withKids (insA i b))) := Lib.hid (by rw [← L1.out]; exact hl2)
  obtain ⟨hk2, ek1, ek2⟩ := slots_at (hs2.trans L2.out) hk
  have EK1 : Hid (rs2[k].nd.id = i) := Lib.hid (ek1.trans HYK.out)
  have EK2 : Hid (rs2[k].b = bk) := Lib.hid (ek2.trans HBK.out)
  clear hd2 hl2 hs2 ek1 ek2 e6 f6
  generalize w7.setCell ⟨bm, 6, none⟩ (.slice A7 n7 c7) = W at D2 ⊢
  refine (node_at (x := { x with rs := rs2 }) i W hk2 EK1.out EK2.out D2.out.dc).mono ?_
  rintro e w8 ⟨rfl, b8⟩
  have D8 := Lib.hid (D2.out.below b8)
  have H8 := Lib.hid (D2.out.dc.below b8)
  obtain ⟨pv, hpv⟩ : ∃ pv, rs2[k].nd.par = pv := ⟨_, rfl⟩
  have d1 : w8.cell? ⟨bk, 1, none⟩ = some (.int .i64 pv) := by have := (H8.out.nd hk2).c1; rw [EK2.out, hpv] at this; exact this
  have f1 : w8.frozen? ⟨bk, 1, none⟩ = false := by have := (H8.out.nd hk2).frozen 1; rw [EK2.out] at this; exact this
  clear b8 hpv
  go_wp2_with fail
  go_ret
  obtain ⟨rs3, hd3, hl3⟩ := put_fin q H8.out hk2 EK1.out
  rw [EK2.out] at hd3
  refine ⟨rfl, _, (DL.out.trans D8.out).trans hd3, ?_⟩
  show D.mk (rs3.map (·.nd)) x.n x.R x.foc = D.mk (putL x.l i q b) x.n x.R x.foc
  rw [hl3]
  show D.mk (upd (rs2.map (·.nd)) i (withPar q)) _ _ _ = _
  rw [L3.out]
  rfl

theorem beq_i (a b : Int) : (a == b) = decide (a = b) := rfl
set_option maxHeartbeats 1000000 in
theorem put_any (i q b : Int) (w : World) (hwf : WF x.d) (h : Dc w B p x) : Calls Tryz.prog 28 #[.pointer (some ⟨p, 0, none⟩), .int .i64 i, .int .i64 q, .int .i64 b] w (Made w B p x (errV (putD x.d i q b).1) (putD x.d i q b).2) := by
  have E : ∀ c : Int, c ≠ 0 → putErr x.l i q b = c → ∀ e w', e = Ending.returned (.iface 97 (.int .i64 c)) ∧ Below w.heap.size w w' → Made w B p x (errV (putD x.d i q b).1) (putD x.d i q b).2 e w' := by
    rintro c hc he e w' ⟨rfl, hb⟩
    have hd : putD x.d i q b = (c, x.d) := by unfold putD; rw [if_neg (by rw [show x.d.l = x.l from rfl, he]; exact hc), show x.d.l = x.l from rfl, he]
    rw [hd]
    exact Made.same h hb (by unfold errV; rw [if_neg hc]) rfl
  cases hi : hasL x.l i with
  | false => exact (put_e2a i q b w hi h).mono (E 2 (by decide) (by unfold putErr; rw [if_pos (.inl hi)]))
  | true =>
  cases hp : hasL x.l q with
  | false => exact (put_e2b i q b w hi hp h).mono (E 2 (by decide) (by unfold putErr; rw [if_pos (.inr (.inl hp))]))
  | true =>
  have hq1 : b ≠ 0 → hasL x.l b = false → putErr x.l i q b = 2 := fun h0 hb => by unfold putErr; rw [if_pos (.inr (.inr ⟨h0, hb⟩))]
  by_cases hbb : b ≠ 0 ∧ hasL x.l b = false
  · exact (put_e2c i q b w hi hp (by simpa using hbb.1) hbb.2 h).mono (E 2 (by decide) (hq1 hbb.1 hbb.2))
  have c1 : ¬ (hasL x.l i = false ∨ hasL x.l q = false ∨ b ≠ 0 ∧ hasL x.l b = false) := by rw [hi, hp]; simpa using hbb
  have hb0 : b = 0 ∨ b ≠ 0 ∧ hasL x.l b = true := by
    by_cases e : b = 0
    · exact .inl e
    · exact .inr ⟨e, by simpa [e] using hbb⟩
  by_cases h1 : i = 1
  · have he : putErr x.l i q b = 4 := by unfold putErr; rw [if_neg c1, if_pos h1]
    rcases hb0 with e | ⟨e, hb⟩
    · exact (put_e40 i q b w hi hp (by simpa using e) (by simpa using h1) h).mono (E 4 (by decide) he)
    · exact (put_e41 i q b w hi hp (by simpa using e) hb (by simpa using h1) h).mono (E 4 (by decide) he)
  have hi1 : (i == 1) = false := by simpa using h1
  cases ht : (tagOf x.l q).toList.isEmpty with
  | true =>
    have he : putErr x.l i q b = 3 := by unfold putErr noKids; rw [if_neg c1, if_neg h1, if_pos (by rw [List.isEmpty_iff] at ht; simp [ht])]
    rcases hb0 with e | ⟨e, hb⟩
    · exact (put_e3a0 i q b w hi hp (by simpa using e) hi1 ht h).mono (E 3 (by decide) he)
    · exact (put_e3a1 i q b w hi hp (by simpa using e) hb hi1 ht h).mono (E 3 (by decide) he)
  | false =>
  have ht' : ¬ (tagOf x.l q).toList = [] := by rw [← List.isEmpty_iff, ht]; simp
  cases hv : P1.voidB (tagOf x.l q).data.toList with
  | true =>
    have he : putErr x.l i q b = 3 := by unfold putErr noKids; rw [if_neg c1, if_neg h1, if_pos (by rw [hv]; simp)]
    rcases hb0 with e | ⟨e, hb⟩
    · exact (put_e3b0 i q b w hi hp (by simpa using e) hi1 ht hv h).mono (E 3 (by decide) he)
    · exact (put_e3b1 i q b w hi hp (by simpa using e) hb hi1 ht hv h).mono (E 3 (by decide) he)
  | false =>
  have hnk : noKids (tagOf x.l q) = false := by unfold noKids; rw [hv]; simpa using ht'
  have c3 : ¬ noKids (tagOf x.l q) = true := by rw [hnk]; simp
  by_cases h4 : b ≠ 0 ∧ (parOf x.l b ≠ q ∨ b = i)
  · have he : putErr x.l i q b = 1 := by unfold putErr; rw [if_neg c1, if_neg h1, if_neg c3, if_pos h4]
    obtain ⟨e, hb⟩ := hb0.resolve_left h4.1
    by_cases hbi : b = i
    · exact (put_e1a1 i q b w hi hp (by simpa using e) hb hi1 ht hv (by simpa using hbi) h).mono (E 1 (by decide) he)
    · exact (put_e1b1 i q b w hi hp (by simpa using e) hb hi1 ht hv (by simpa using hbi) (by simpa using h4.2.resolve_right hbi) h).mono (E 1 (by decide) he)
  have hb2 : b = 0 ∨ b ≠ 0 ∧ hasL x.l b = true ∧ (b == i) = false ∧ (parOf x.l b != q) = false := by
    rcases hb0 with e | ⟨e, hb⟩
    · exact .inl e
    · refine .inr ⟨e, hb, ?_, ?_⟩
      · simp only [not_and, not_or] at h4; simpa using (h4 e).2
      · simp only [not_and, not_or] at h4; simpa using (h4 e).1
  cases hin : inside x.l q i with
  | true =>
    have he : putErr x.l i q b = 5 := by unfold putErr; rw [if_neg c1, if_neg h1, if_neg c3, if_neg h4, if_pos hin]
    rcases hb2 with e | ⟨e, hb, e2, e3⟩
    · exact (put_e50 i q b w hi hp (by simpa using e) hi1 ht hv hwf hin h).mono (E 5 (by decide) he)
    · exact (put_e51 i q b w hi hp (by simpa using e) hb e2 e3 hi1 ht hv hwf hin h).mono (E 5 (by decide) he)
  | false =>
  have he : putErr x.l i q b = 0 := by unfold putErr; rw [if_neg c1, if_neg h1, if_neg c3, if_neg h4, if_neg (by rw [hin]; simp)]
  have hok := putErr_ok he
  have hd : putD x.d i q b = (0, { x.d with l := putL x.l i q b }) := if_pos (show putErr x.d.l i q b = 0 from he)
  rw [hd]
  rcases hb2 with e | ⟨e, hb, e2, e3⟩
  · exact put_ok0 i q b w hi hp (by simpa using e) hi1 ht hv hwf hin hok h
  · exact put_ok1 i q b w hi hp (by simpa using e) hb e2 e3 hi1 ht hv hwf hin hok h
end Go.Proofs.YtihjdmdafiifhaaGreat.P5
