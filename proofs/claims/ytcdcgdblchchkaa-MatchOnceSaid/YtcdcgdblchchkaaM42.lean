/- The walk of MatchOnce, over the contracts of the program's Of (wish) and Of (match). No condition but those stated. -/
import Derived.BigQuiet
import Derived.Test.YtcdcgdblchchkaaM22
import Derived.Test.YtcdcgdblchchkaaM34
set_option linter.unusedVariables false
set_option linter.unusedSimpArgs false
namespace Go.Proofs.Ytcdcgdblchchkaa.P16
open Go.RowKit Kd P4 P5 P11 P12 P13 P14
set_option linter.unusedSimpArgs false
set_option linter.unusedVariables false

/-- how often each place stands in a list -/
def cntM (n : Nat) (L : List Int) : List Int := (List.range n).map (fun (k : Nat) => ((L.count (k : Int) : Nat) : Int))
theorem cntM_len (n : Nat) (L : List Int) : (cntM n L).length = n := by simp [cntM]
theorem cntM_at {n : Nat} {L : List Int} {k : Nat} (h : k < (cntM n L).length) : (cntM n L)[k] = ((L.count (k : Int) : Nat) : Int) := by simp [cntM]
theorem cntM_nil (n : Nat) : cntM n [] = List.replicate n 0 := by
  apply List.ext_getElem
  · simp [cntM]
  · intro i h1 h2
    simp [cntM]
theorem cntM_skip {n : Nat} {L : List Int} {x : Int} (h : x < 0) : cntM n (L ++ [x]) = cntM n L := by
  unfold cntM
  refine List.map_congr_left fun k _ => ?_
  rw [List.count_append, List.count_singleton]
  have e : (x == (k : Int)) = false := by simp; omega
  rw [e]
  simp
theorem cntM_set {n : Nat} {L : List Int} {x : Nat} (hx : x < n) (h : L.count (x : Int) = 0) : cntM n (L ++ [(x : Int)]) = (cntM n L).set x 1 := by
  apply List.ext_getElem
  · simp [cntM]
  · intro i h1 h2
    rw [List.getElem_set, cntM_at, List.count_append, List.count_singleton]
    by_cases e : x = i
    · subst e
      simp [h]
    · have e2 : ((x : Int) == (i : Int)) = false := by simp; omega
      rw [if_neg e, e2, cntM_at]
      simp
theorem take_succ {L : List Int} {i : Nat} {a : Int} (h : L[i]? = some a) : L.take (i + 1) = L.take i ++ [a] := by
  rw [List.take_add_one, h]
  rfl
/-- an element of a row of one's own: its cell, and that it may be set -/
theorem own_int {w : World} {B g n c : Nat} {l : List Int} (h : kI.Own w B (.slice (some ⟨g, 0, none⟩) n c) l) {k : Nat} (hk : k < l.length) :
    w.cell? ⟨g, k, none⟩ = some (.int .i64 l[k]) ∧ w.frozen? ⟨g, k, none⟩ = false ∧ ∀ z, kI.Own (w.setCell ⟨g, k, none⟩ (.int .i64 z)) B (.slice (some ⟨g, 0, none⟩) n c) (l.set k z) := by
  refine ⟨?_, ?_, fun b => ?_⟩
  · obtain ⟨A', n', c', hv, _, _, _, _, e5⟩ := h.slice
    injection hv with h1 h2 h3
    subst h1; subst h2; subst h3
    obtain ⟨b, o, hA, _, hc⟩ := cell_int e5 hk
    injection hA with hA
    injection hA with e1 e2 _
    subst e1; subst e2
    simpa using hc
  · rcases h.form with ⟨hv, _⟩ | ⟨g', c', cur, hv, _, _, _, hh, _⟩
    · cases hv
    injection hv with e1
    injection e1 with e1
    injection e1 with e1
    subst e1
    simp [World.frozen?, hh]
  · have := own_setK h hk b
    have e : k * kI.size = k := Nat.mul_one k
    rw [e] at this
    exact this
theorem cells_zero : ∀ M : Nat, kI.cells (List.replicate M 0) = List.replicate M (.int .i64 0)
  | 0 => rfl
  | M + 1 => by
    have h := cells_zero M
    simp only [Kind.cells, List.replicate_succ, List.flatMap_cons] at h ⊢
    rw [h]
    rfl
theorem make_ints (W : World) (B M : Nat) (hB : B ≤ W.heap.size) (hM : M ≤ 100000) :
    ∃ w', (Instr.makeSlice 32 (.int .i64 (M : Int)) (.int .i64 (M : Int))).run Try.prog W = .ok (.slice (some ⟨W.heap.size, 0, none⟩) M M) w' ∧
      kI.Own w' B (.slice (some ⟨W.heap.size, 0, none⟩) M M) (List.replicate M 0) ∧ W.grownBy w' none := by
  obtain ⟨i0, hi, hz0, hz1, hz2⟩ := kI.info
  have hb : kI.bytes = 8 := rfl
  obtain ⟨w', h1, h2, h3⟩ := run_make_full (P := Try.prog) W B 32 3 i0 kI.z kI.size Try.underlying32 hi hz0 hz1 .i64 .i64 M (by rw [hz2, hb]; omega) (by unfold maxLen; omega) hB
  refine ⟨w', h1, ?_, h3⟩
  have e : (madeCells kI.z.cells (M * kI.size)).toList = kI.cells (List.replicate M 0) := by
    have e1 : M * kI.size = M := Nat.mul_one M
    have e2 : kI.z.cells = #[.int .i64 0] := rfl
    rw [e1, e2, toList_madeCells_one, cells_zero]
  rw [e] at h2
  show w'.ownsRow B kI.e kI.size _ (List.replicate M 0).length _
  rw [List.length_replicate]
  exact h2
theorem own_zeroI {w : World} {B' g : Nat} (hg : w.heap[g]? = some (.cells #[] 3 (0, 0))) (hB : B' ≤ g) : kI.Own w B' (.slice (some ⟨g, 0, none⟩) 0 0) [] :=
  Kind.own_mk (K := kI) (cur := #[]) rfl hB hg (Nat.le_refl _) (by simp [maxLen]) (by simp) (by simp [Kind.cells])
theorem hz_top {w : World} {o : Obj} {g : Nat} (h : g = w.heap.size) : (w.alloc o).heap[g]? = some o := by subst h; exact heap_alloc_new w o
theorem hz_drew {w : World} {o : Obj} {g : Nat} (h : w.heap[g]? = some o) : w.drew.heap[g]? = some o := h
theorem er_kind (t : WV) : (er t).kind = t.kind := by rw [er_parts]; rfl
theorem er_tag (t : WV) : (er t).tag = t.tag := by rw [er_parts]; rfl
theorem er_key (t : WV) : (er t).key = t.key := by rw [er_parts]; rfl
/-- one's own row behind a store into another block -/
theorem own_far {w : World} {B g k : Nat} {v u : Value} {l : List Int} (h : kI.Own w B v l) (hg : g < B) : kI.Own (w.setCell ⟨g, k, none⟩ u) B v l :=
  h.but (set_but w g k u) (fun i hi e => by have := (h.lt hi).1; omega)
set_option maxRecDepth 100000 in
set_option maxHeartbeats 16000000 in
theorem once16_any (W14 : WOfC) (C : MatchC) (old : List Ol) (A : Option Addr) (n c : Nat) (l : List In) (A' : Option Addr) (n' c' : Nat) (w : World) (hh : kO.Holds w w.heap.size A old) (hsz : ∀ o ∈ old, o.tag.size ≤ maxLen ∧ o.key.size ≤ maxLen) (hn : old.length = n) (hnc : n ≤ c) (hcm : c ≤ maxLen)
    (hh' : kX.Holds w w.heap.size A' l) (hn' : l.length = n') (hnc' : n' ≤ c') (hcm' : c' ≤ maxLen) :
    Calls Try.prog 4 #[.slice A n c, .slice A' n' c'] w fun e w' => e = .returned (.bool true) ∧ Below w.heap.size w w' := by
  have HU := Lib.hid (up16_any C)
  have HC := Lib.hid C
  have KH := Lib.hid hh
  have KSZ := Lib.hid hsz
  have KN := Lib.hid hn
  have KC := Lib.hid hcm
  have WN : Hid (∀ w9, Below w.heap.size w w9 → Calls Try.prog 6 #[.slice A' n' c'] w9 (WantsV w9 l)) := Lib.hid (fun w9 h => wants16_any W14 l A' n' c' w9 (hh'.on h) hn' hnc' hcm')
  clear hh hsz hn hcm hh' hn' hnc' hcm'
  go_enter Try.func4, Try.ntmps4
  go_wp2_with fail
  refine (HU.out w).mono ?_
  rintro e w1 ⟨rfl, b1⟩
  have B1 := Lib.hid b1
  clear b1 HU
  go_wp2_with fail
  refine (WN.out w1 B1.out).mono ?_
  rintro e w2 ⟨b2, hv⟩
  have B2 := Lib.hid (B1.out.trans (b2.mono B1.out.size))
  clear b2 WN
  rcases hv with ⟨A2, n2, c2, rfl⟩ | ⟨A2, n2, c2, ts, rfl, hck, her, hm⟩
  · go_wp2_with fail
    go_ret
    exact ⟨rfl, B2.out⟩
  have HM := Lib.hid hm
  have HWT := Lib.hid (wt_small hck)
  have HWF : Hid (∀ t ∈ erL ts, WfW t) := Lib.hid (by rw [her]; exact (want_back hck).2)
  have NA : Hid (∀ i, i < (erL ts).length → ∀ j (hj : j < (erL ts).length), j < i → (erL ts)[j].kind ≠ 4) := Lib.hid (by rw [her]; exact fun i hi => none_ahead hck hi)
  rw [← her] at HWT
  clear hck hm her
  by_cases h30 : 30 < n
  · have q30 : decide ((30 : Int) < (n : Int)) = true := by simp; omega
    go_wp2_with fail
    go_ret
    exact ⟨rfl, B2.out⟩
  have q30 : decide ((30 : Int) < (n : Int)) = false := by simp; omega
  have KH2 := Lib.hid (KH.out.on B2.out)
  have DM : Hid (Calls Try.prog 7 #[.slice A n c, .slice A2 n2 c2] w2 (MOfV w2 (foldM old (erL ts)) old.length)) := Lib.hid (HC.out old A n c ts A2 n2 c2 w2 KH2.out KSZ.out KN.out hnc KC.out (by omega) HM.out HWF.out (by have := HWT.out; omega))
  go_wp2_with fail
  refine DM.out.mono ?_
  rintro e w3 ⟨B1', m1, d1, B2', m2, d2, B3', m3, d3, rfl, r3, b3⟩
  have R := Lib.hid r3
  have X3 := Lib.hid b3
  clear b3 r3 DM HC
  have XR : Hid ((w3.alloc (.cells #[.slice B1' m1 d1, .slice B2' m2 d2, .slice B3' m3 d3] 34)).heap[w3.heap.size]? = some (.cells #[.slice B1' m1 d1, .slice B2' m2 d2, .slice B3' m3 d3] 34 (0, 0))) := Lib.hid (heap_alloc_new w3 _)
  have BR : Hid (Below w3.heap.size w3 (w3.alloc (.cells #[.slice B1' m1 d1, .slice B2' m2 d2, .slice B3' m3 d3] 34))) := Lib.hid ((Below.refl _ _).alloc (Nat.le_refl _) _)
  go_upto_region 6 with fail
  generalize w3.alloc (.cells #[.slice B1' m1 d1, .slice B2' m2 d2, .slice B3' m3 d3] 34) = w4 at XR BR ⊢
  have X4 : Hid (Below w2.heap.size w2 w4) := Lib.hid (X3.out.trans (BR.out.mono X3.out.size))
  have R4 := Lib.hid (R.out.on BR.out)
  have LT4 := Lib.hid (heap_lt XR.out)
  obtain ⟨p, hp⟩ : ∃ p, p = w3.heap.size := ⟨_, rfl⟩
  rw [← hp] at XR LT4 ⊢
  have EL : Hid ((erL ts).length = n2) := Lib.hid (by rw [erL_map]; simpa using HM.out.len)
  have hm1 : m1 = n2 := by rw [← R4.out.l1, (foldM_lens old (erL ts)).1, EL.out]
  subst hm1
  have hn2 : m1 ≤ 120 := by have h1 := wtL_len (erL ts); have := HWT.out; have := EL.out; omega
  have t0 : w4.cell? ⟨p, 0, none⟩ = some (.slice B1' m1 d1) := cell_of_row w4 p 0 _ _ (0, 0) XR.out
  have e0 : ((m1 : Int) == (m1 : Int)) = true := by simp
  clear R BR X3
  obtain ⟨wm, hmk, ownM, grM⟩ := make_ints w4 w4.heap.size n (Nat.le_refl _) (by omega)
  have BM : Hid (Below w4.heap.size w4 wm) := Lib.hid ((Below.refl _ _).grown grM (Nat.le_refl _) (fun k hk => by cases hk))
  obtain ⟨g, hg⟩ : ∃ g, g = w4.heap.size := ⟨_, rfl⟩
  rw [← hg] at hmk
  have OM : Hid (kI.Own wm w4.heap.size (.slice (some ⟨g, 0, none⟩) n n) (cntM n ((foldM old (erL ts)).take.take 0))) := Lib.hid (by rw [hg, List.take_zero, cntM_nil]; exact ownM)
  have HG := Lib.hid hg
  have HP := Lib.hid hp
  clear ownM grM hg hp
  go_wp2_with fail
  go_loopw [10] (fun s10 wr => ∃ (i : Nat), i ≤ m1 ∧ s10 = .int .i64 i ∧ Hid (kI.Own wr w4.heap.size (.slice (some ⟨g, 0, none⟩) n n) (cntM n ((foldM old (erL ts)).take.take i))) ∧ Hid (Below w4.heap.size w4 wr)) (fun s _ => m1 - (intOf s).toNat)
  case atStart => exact ⟨0, by omega, rfl, OM, BM⟩
  case round =>
    obtain ⟨i, hi, rfl, HO, HB⟩ := hrel
    clear hmk t0
    have XB4 : Hid (Below w2.heap.size w2 wr) := Lib.hid (X4.out.trans (HB.out.mono X4.out.size))
    have XRr : Hid (wr.heap[p]? = some (.cells #[.slice B1' m1 d1, .slice B2' m2 d2, .slice B3' m3 d3] 34 (0, 0))) := Lib.hid ((HB.out.block _ LT4.out).trans XR.out)
    have r0 : wr.cell? ⟨p, 0, none⟩ = some (.slice B1' m1 d1) := cell_of_row wr p 0 _ _ (0, 0) XRr.out
    have hTl := R4.out.l1
    by_cases him : i < m1
    · have hit : i < (foldM old (erL ts)).take.length := by omega
      have hie : i < (erL ts).length := by have := EL.out; omega
      have hil : i < ts.length := by rw [erL_map, List.length_map] at hie; exact hie
      obtain ⟨bt, ot, rfl, hbt, tk⟩ := cell_int (R4.out.h1.on HB.out) hit
      have hTi : (foldM old (erL ts)).take[i]? = some (foldM old (erL ts)).take[i] := List.getElem?_eq_getElem hit
      have hrg := (once_fold old (erL ts)).take _ (List.getElem_mem hit)
      rw [KN.out] at hrg
      obtain ⟨bw, ow, rfl, hbw, y0, y1, y2, y3, y4, y5⟩ := cell_of_w HM.out.holds hil
      have GW : Hid (∀ wz, Below w2.heap.size w2 wz → wz.cell? ⟨bw, ow + i * 6, none⟩ = some (.int .i64 ts[i].kind) ∧ wz.cell? ⟨bw, ow + i * 6 + 1, none⟩ = some (.string ts[i].tag) ∧ wz.cell? ⟨bw, ow + i * 6 + 2, none⟩ = some (.string ts[i].key)) := Lib.hid (fun wz h => ⟨(h.cell hbw).trans y0, (h.cell hbw).trans y1, (h.cell hbw).trans y2⟩)
      have TK := Lib.hid (fun (a : Int) (ha : (foldM old (erL ts)).take[i] = a) (h0 : 0 ≤ a) => took hie (hTi.trans (by rw [ha])) h0)
      have MS := Lib.hid (fun (a : Int) (ha : (foldM old (erL ts)).take[i] = a) (h0 : a < 0) (h1 : (erL ts)[i].kind = 1) (h2 : (erL ts)[i].key.toList.isEmpty = false) (k : Nat) (o : Ol) (ho : old[k]? = some o) (hc : ((foldM old (erL ts)).take.take i).count (k : Int) = 0) => missed hie (hTi.trans (by rw [ha])) h0 h1 h2 (NA.out i hie) ho hc)
      have SC := Lib.hid (fun (a : Int) (ha : (foldM old (erL ts)).take[i] = a) => take_succ (hTi.trans (by rw [ha])))
      rw [erL_at hil hie] at TK MS
      generalize hd : ts[i] = d at GW TK MS
      have HKD := Lib.hid (er_kind d)
      have HKT := Lib.hid (er_tag d)
      have HKK := Lib.hid (er_key d)
      clear y0 y1 y2 y3 y4 y5 hd
      obtain ⟨y0, y1, y2⟩ := GW.out wr XB4.out
      generalize hav : (foldM old (erL ts)).take[i] = av at tk TK MS SC hrg
      clear hTi hie hil hTl hav hit
      have f1 : decide ((n : Int) ≤ av) = false := by simp; omega
      have f2 : decide (av < -1) = false := by simp; omega
      obtain ⟨ek, hek⟩ : ∃ b, d.key.toList.isEmpty = b := ⟨_, rfl⟩
      by_cases h0 : 0 ≤ av
      · obtain ⟨o, f, hlt, hoa, htk, hcnt⟩ := TK.out av rfl h0
        obtain ⟨x, rfl⟩ : ∃ x : Nat, av = (x : Int) := ⟨av.toNat, by omega⟩
        rw [Int.toNat_natCast] at hoa
        have hxo : x < old.length := by omega
        have hxn : x < n := by have := KN.out; omega
        have S2 := Lib.hid (SC.out (x : Int) rfl)
        obtain ⟨c0, fz, st⟩ := own_int HO.out (k := x) (by rw [cntM_len]; exact hxn)
        rw [cntM_at, hcnt] at c0
        have c0 : wr.cell? ⟨g, x, none⟩ = some (.int .i64 0) := c0
        have HO2 : Hid (kI.Own (wr.setCell ⟨g, x, none⟩ (.int .i64 1)) w4.heap.size (.slice (some ⟨g, 0, none⟩) n n) (cntM n ((foldM old (erL ts)).take.take (i + 1)))) := Lib.hid (by rw [S2.out, cntM_set hxn hcnt]; exact st 1)
        have HB2 : Hid (Below w4.heap.size w4 (wr.setCell ⟨g, x, none⟩ (.int .i64 1))) := Lib.hid (HB.out.trans ((set_but wr g x _).to_below (fun i _ hi => by have := HG.out; omega) HB.out.size))
        obtain ⟨bo, oo, rfl, hbo, z0', z1'⟩ := cell_of_o KH2.out hxo
        have eo : old[x] = o := by rw [List.getElem?_eq_getElem hxo] at hoa; injection hoa
        rw [eo] at z0' z1'
        have GO : Hid (∀ wz, Below w2.heap.size w2 wz → wz.cell? ⟨bo, oo + x * 2, none⟩ = some (.string o.tag) ∧ wz.cell? ⟨bo, oo + x * 2 + 1, none⟩ = some (.string o.key)) := Lib.hid (fun wz h => ⟨(h.cell hbo).trans z0', (h.cell hbo).trans z1'⟩)
        have HTK : Hid (takesW (er d) o f = true) := Lib.hid htk
        rw [er_takes] at HTK
        have f5 : decide ((x : Int) < 0) = false := by simp
        clear st hcnt hoa htk eo TK MS SC S2 HO z0' z1' hxo hrg h0 f1 f2 hlt HKD HKT HKK
        have f1 : decide ((n : Int) ≤ (x : Int)) = false := by simp; omega
        have f2 : decide ((x : Int) < -1) = false := by first | (simp; done) | (simp; omega)
        have pre : Hid (∀ wz, Below w4.heap.size w4 wz → (wz.cell? ⟨bw, ow + i * 6, none⟩ = some (.int .i64 d.kind) ∧ wz.cell? ⟨bw, ow + i * 6 + 1, none⟩ = some (.string d.tag) ∧ wz.cell? ⟨bw, ow + i * 6 + 2, none⟩ = some (.string d.key)) ∧ wz.cell? ⟨bo, oo + x * 2, none⟩ = some (.string o.tag) ∧ wz.cell? ⟨bo, oo + x * 2 + 1, none⟩ = some (.string o.key)) := Lib.hid (fun wz h => by
          have hz := X4.out.trans (h.mono X4.out.size)
          exact ⟨GW.out wz hz, GO.out wz hz⟩)
        clear GW GO
        generalize d.kind = dk at pre HTK y0
        generalize d.tag = dt at pre HTK y1
        generalize d.key = dy at pre HTK y2 hek
        generalize o.tag = tg at pre HTK
        generalize o.key = ky at pre HTK
        have HTK := HTK.out
        by_cases h1 : dk = 1
        · subst h1
          rw [if_pos rfl] at HTK
          simp only [Bool.and_eq_true, bq] at HTK
          obtain ⟨⟨bt1, bk1⟩, _⟩ := HTK
          cases ek
          all_goals
            go_upto_region 23 with fail
            obtain ⟨⟨p0, p1, p2⟩, p3, p4⟩ := pre.out _ HB2.out
            go_quiet (fail)
            go_wp2_with fail
            go_roundw
            case rel => exact ⟨i + 1, by omega, by go_num, Lib.hid (by first | exact HO2.out | exact HO2.out.drewN _ | exact HO2.out.drew), Lib.hid (by first | exact HB2.out | exact Below_drewN HB2.out _ | exact HB2.out.drew)⟩
            case measure => simp [intOf]; omega
        · have q1 := int_ne h1
          rw [if_neg h1] at HTK
          by_cases h2 : dk = 2
          · subst h2
            rw [if_pos rfl, Bool.and_eq_true] at HTK
            have et := HTK.2
            clear HTK
            go_upto_region 23 with fail
            obtain ⟨⟨p0, p1, p2⟩, p3, p4⟩ := pre.out _ HB2.out
            go_quiet (fail)
            go_wp2_with fail
            go_roundw
            case rel => exact ⟨i + 1, by omega, by go_num, Lib.hid (by first | exact HO2.out | exact HO2.out.drewN _ | exact HO2.out.drew), Lib.hid (by first | exact HB2.out | exact Below_drewN HB2.out _ | exact HB2.out.drew)⟩
            case measure => simp [intOf]; omega
          · have q2 := int_ne h2
            rw [if_neg h2] at HTK
            by_cases h3 : dk = 3
            · subst h3
              go_upto_region 23 with fail
              obtain ⟨⟨p0, p1, p2⟩, p3, p4⟩ := pre.out _ HB2.out
              go_quiet (fail)
              go_wp2_with fail
              go_roundw
              case rel => exact ⟨i + 1, by omega, by go_num, Lib.hid (by first | exact HO2.out | exact HO2.out.drewN _ | exact HO2.out.drew), Lib.hid (by first | exact HB2.out | exact Below_drewN HB2.out _ | exact HB2.out.drew)⟩
              case measure => simp [intOf]; omega
            · rw [if_neg h3] at HTK
              cases HTK
      · obtain rfl : av = -1 := by omega
        have S2 := Lib.hid (SC.out (-1) rfl)
        have HO2 : Hid (kI.Own wr w4.heap.size (.slice (some ⟨g, 0, none⟩) n n) (cntM n ((foldM old (erL ts)).take.take (i + 1)))) := Lib.hid (by rw [S2.out, cntM_skip (by omega)]; exact HO.out)
        have HB2 := HB
        by_cases h1 : d.kind = 1 ∧ ek = false
        · obtain ⟨h1, rfl⟩ := h1
          have MS2 := Lib.hid (MS.out (-1) rfl (by omega) (by rw [HKD.out]; exact h1) (by rw [HKK.out]; exact hek))
          rw [HKT.out, HKK.out] at MS2
          rw [h1] at GW y0
          clear TK MS SC S2 f1 f2 hrg h0 HKD HKT HKK
          have f2 : decide ((-1 : Int) < -1) = false := by decide
          have f1 : decide ((n : Int) ≤ -1) = false := by simp; omega
          generalize d.tag = dt at GW MS2 y1
          generalize d.key = dy at GW MS2 y2 hek
          obtain ⟨wo, rfl⟩ : ∃ wo : World, wo = wr := ⟨_, rfl⟩
          go_wp2_with fail
          go_loopw [12] (fun s12 wr => ∃ (k : Nat), k ≤ n ∧ s12 = .int .i64 k ∧ Hid (Below wo.heap.size wo wr)) (fun s _ => n - (intOf s).toNat)
          case atStart => exact ⟨0, by omega, rfl, Lib.hid (Below.refl _ _)⟩
          case round =>
            obtain ⟨k, hk, rfl, HX⟩ := hrel
            have HXB : Hid (Below w2.heap.size w2 wr) := Lib.hid (XB4.out.trans (HX.out.mono XB4.out.size))
            by_cases hkn : k < n
            · have hko : k < old.length := by have := KN.out; omega
              obtain ⟨c0, _, _⟩ := own_int (HO.out.below HX.out (Nat.le_refl _)) (k := k) (by rw [cntM_len]; exact hkn)
              rw [cntM_at] at c0
              obtain ⟨bo, oo, rfl, hbo, z0', z1'⟩ := cell_of_o KH2.out hko
              have z0 := (HXB.out.cell hbo).trans z0'
              have z1 := (HXB.out.cell hbo).trans z1'
              obtain ⟨y0, y1, y2⟩ := GW.out wr HXB.out
              have MS3 := Lib.hid (MS2.out k _ (List.getElem?_eq_getElem hko))
              generalize hcv : List.count (k : Int) ((foldM old (erL ts)).take.take i) = cv at c0 MS3
              generalize old[k] = o at z0 z1 MS3
              generalize o.tag = tg at z0 MS3
              generalize o.key = ky at z1 MS3
              clear z0' z1' hcv hko
              by_cases hc : cv = 0
              · subst hc
                have c0 : wr.cell? ⟨g, k, none⟩ = some (.int .i64 0) := c0
                have MS4 := MS3.out rfl
                simp only [bq] at MS4
                obtain ⟨bt1, hbt1⟩ : ∃ b, (tg.toList == dt.toList) = b := ⟨_, rfl⟩
                obtain ⟨bk1, hbk1⟩ : ∃ b, (ky.toList == dy.toList) = b := ⟨_, rfl⟩
                rw [hbt1, hbk1] at MS4
                have MS5 : bt1 = false ∨ (bt1 = true ∧ bk1 = false) := by cases bt1 <;> simp_all
                clear MS4 MS3 MS2
                rcases MS5 with rfl | ⟨rfl, rfl⟩
                all_goals
                  go_upto_region 19 with fail
                  go_quiet (fail)
                  go_wp2_with fail
                  go_roundw
                  case rel => exact ⟨k + 1, by omega, by go_num, Lib.hid (by first | exact HX.out | exact Below_drewN HX.out _ | exact HX.out.drew)⟩
                  case measure => simp [intOf]; omega
              · have qc : ((cv : Int) == 0) = false := by simp; omega
                clear MS3 MS2
                go_upto_region 19 with fail
                go_quiet (fail)
                go_wp2_with fail
                go_roundw
                case rel => exact ⟨k + 1, by omega, by go_num, Lib.hid (by first | exact HX.out | exact Below_drewN HX.out _ | exact HX.out.drew)⟩
                case measure => simp [intOf]; omega
            · obtain rfl : k = n := by omega
              have HO3 := Lib.hid (HO2.out.below HX.out (Nat.le_refl _))
              have HB3 : Hid (Below w4.heap.size w4 wr) := Lib.hid (HB.out.trans (HX.out.mono HB.out.size))
              go_wp2_with fail
              go_roundw
              case rel => exact ⟨i + 1, by omega, by go_num, HO3, HB3⟩
              case measure => simp [intOf]; omega
        · have h1' : (d.kind = 1 ∧ ek = true) ∨ ¬ d.kind = 1 := by
            cases ek
            · exact Or.inr (fun h => h1 ⟨h, rfl⟩)
            · rcases Classical.em (d.kind = 1) with h | h
              · exact Or.inl ⟨h, rfl⟩
              · exact Or.inr h
          clear TK MS SC S2 f1 f2 hrg h0 HKD HKT HKK h1
          have f2 : decide ((-1 : Int) < -1) = false := by decide
          have f1 : decide ((n : Int) ≤ -1) = false := by simp; omega
          rcases h1' with ⟨h1, rfl⟩ | h1
          · rw [h1] at y0
            go_wp2_with fail
            go_roundw
            case rel => exact ⟨i + 1, by omega, by go_num, Lib.hid (by first | exact HO2.out | exact HO2.out.drewN _ | exact HO2.out.drew), Lib.hid (by first | exact HB2.out | exact Below_drewN HB2.out _ | exact HB2.out.drew)⟩
            case measure => simp [intOf]; omega
          · have q1 := int_ne h1
            go_wp2_with fail
            go_roundw
            case rel => exact ⟨i + 1, by omega, by go_num, Lib.hid (by first | exact HO2.out | exact HO2.out.drewN _ | exact HO2.out.drew), Lib.hid (by first | exact HB2.out | exact Below_drewN HB2.out _ | exact HB2.out.drew)⟩
            case measure => simp [intOf]; omega
    · obtain rfl : i = m1 := by omega
      have HOT : Hid (kI.Own wr w4.heap.size (.slice (some ⟨g, 0, none⟩) n n) (cntM n (foldM old (erL ts)).take)) := Lib.hid (by have := HO.out; rw [List.take_of_length_le (by omega)] at this; exact this)
      have hgw := (HOT.out.lt rfl).2
      have ON := Lib.hid (fun (k : Nat) (hk : k < old.length) => once_all old (erL ts) hk)
      have RM := Lib.hid (rest_mem old (erL ts))
      have hl2 := (foldM_lens old (erL ts)).2
      have hl3 := idxM_len (foldM old (erL ts)).left old.length
      have hmul : (erL ts).length * old.length ≤ 120 * 30 := Nat.mul_le_mul (by have := EL.out; omega) (by have := KN.out; omega)
      have HL2 : Hid ((foldM old (erL ts)).kept.length ≤ 3600) := Lib.hid (by omega)
      have HL3 : Hid ((idxM (foldM old (erL ts)).left old.length).length ≤ 30) := Lib.hid (by have := KN.out; omega)
      have RK := Lib.hid (R4.out.h2.on HB.out)
      have RG := Lib.hid (R4.out.h3.on HB.out)
      have hz2 := R4.out.z2
      have hz3 := R4.out.z3
      have hy2 := R4.out.l2
      have hy3 := R4.out.l3
      have SK0 : Hid (∀ wz, Below wr.heap.size wr wz → wz.cell? ⟨p, 1, none⟩ = some (.slice B2' m2 d2) ∧ wz.cell? ⟨p, 2, none⟩ = some (.slice B3' m3 d3)) := Lib.hid (fun wz h => by
        have hx := (h.block _ (heap_lt XRr.out)).trans XRr.out
        exact ⟨cell_of_row wz p 1 _ _ (0, 0) hx, cell_of_row wz p 2 _ _ (0, 0) hx⟩)
      clear HO hl2 hl3 hmul R4 hTl NA XRr r0
      generalize (foldM old (erL ts)).kept = kept at RK HL2 ON RM hy2
      generalize idxM (foldM old (erL ts)).left old.length = gone at RG HL3 ON RM hy3
      generalize (foldM old (erL ts)).take = T at HOT ON
      go_upto_region 25 with fail
      have SK := SK0.out wr (Below.refl _ _)
      have BZ : Hid (Below wr.heap.size wr (wr.alloc (.cells #[] 3)).drew) := Lib.hid ((Below.refl _ _).alloc (Nat.le_refl _) _).drew
      have OZ : Hid (kI.Own (wr.alloc (.cells #[] 3)).drew wr.heap.size (.slice (some ⟨wr.heap.size, 0, none⟩) 0 0) []) := Lib.hid (own_zeroI (hz_drew (heap_alloc_new wr _)) (Nat.le_refl _))
      go_region_held3 (fun w' => w'.cell? ⟨p, 1, none⟩ = some (.slice B2' m2 d2) ∧ w'.cell? ⟨p, 2, none⟩ = some (.slice B3' m3 d3)) (first | go_keep | exact SK) ((first
        | (refine kI.step_app rfl (.tmp 180) (.tmp 182) rfl (v := .slice (some ⟨wr.heap.size, 0, Option.none⟩) 0 0) (l := []) (m := kept) (B := wr.heap.size) rfl OZ.out rfl hy2 hz2 (RK.out.on BZ.out) (by have := HL2.out; simp; omega) BZ.out.size ?_; intro v6 w6 hown6 hgrow6 hat6; obtain ⟨A6, n6, c6, rfl, _, _, _, _, _⟩ := hown6.slice; have O6 := Lib.hid hown6; have B6 : Hid (Below wr.heap.size wr w6) := Lib.hid (BZ.out.grown hgrow6 BZ.out.size (fun k hk => by simp [Value.ownBlock] at hk; omega)); have hz6 := B6.out.size; have SK := SK0.out w6 B6.out; clear hown6 hgrow6 hat6)
        | (refine kI.step_app rfl (.tmp 183) (.tmp 185) rfl (v := .slice A6 n6 c6) (l := [] ++ kept) (m := gone) (B := wr.heap.size) rfl O6.out rfl hy3 hz3 (RG.out.on B6.out) (by have := HL2.out; have := HL3.out; simp; omega) hz6 ?_; intro v7 w7 hown7 hgrow7 hat7; obtain ⟨A7, n7, c7, rfl, _, _, _, _, _⟩ := hown7.slice; have O7 : Hid (kI.Own w7 wr.heap.size (.slice A7 n7 c7) (kept ++ gone)) := Lib.hid hown7; have B7 : Hid (Below wr.heap.size wr w7) := Lib.hid (Below.grown (a := wr) B6.out hgrow7 hz6 (fun k hk => (O6.out.lt hk).1)); have SK := SK0.out w7 B7.out; clear hown7 hgrow7 hat7)
        | fail))
      all_goals
        have HOM : Hid (kI.Own w7 w4.heap.size (.slice (some ⟨g, 0, none⟩) n n) (cntM n (T ++ (kept ++ gone).take 0))) := Lib.hid (by rw [List.take_zero, List.append_nil]; exact HOT.out.below B7.out (Nat.le_refl _))
        have HB7 : Hid (Below w4.heap.size w4 w7) := Lib.hid (HB.out.trans (B7.out.mono HB.out.size))
        have hn7 : (kept ++ gone).length = n7 := (own_is O7.out).1
        have hn7s : n7 ≤ 4000 := by
          have h1 := HL2.out
          have h2 := HL3.out
          have h3 := hn7
          rw [List.length_append] at h3
          omega
        clear HOT SK SK0 RK RG B7 O6 B6 hz6
        generalize kept ++ gone = rest at O7 HOM ON RM hn7
        have STR : Hid (∃ (r : Nat), r ≤ n7 ∧ (Value.int .i64 0) = .int .i64 r ∧ Hid (kI.Own w7 w4.heap.size (.slice (some ⟨g, 0, none⟩) n n) (cntM n (T ++ rest.take r))) ∧ Hid (kI.Own w7 wr.heap.size (.slice A7 n7 c7) rest) ∧ Hid (Below w4.heap.size w4 w7)) := Lib.hid ⟨0, by omega, rfl, HOM, O7, HB7⟩
        obtain ⟨D, hD⟩ : ∃ D, D = wr.heap.size := ⟨_, rfl⟩
        rw [← hD] at STR hgw
        clear hD HOM O7 HB7
        go_wp2_with fail
        go_loopw [14] (fun s14 wr => ∃ (r : Nat), r ≤ n7 ∧ s14 = .int .i64 r ∧ Hid (kI.Own wr w4.heap.size (.slice (some ⟨g, 0, none⟩) n n) (cntM n (T ++ rest.take r))) ∧ Hid (kI.Own wr D (.slice A7 n7 c7) rest) ∧ Hid (Below w4.heap.size w4 wr)) (fun s _ => n7 - (intOf s).toNat)
        case atStart => exact STR.out
        case round =>
          obtain ⟨r, hr, rfl, HOM, HR7, HB7⟩ := hrel
          clear STR
          by_cases hrn : r < n7
          · have hrl : r < rest.length := by omega
            have hmem := RM.out _ (List.getElem_mem hrl)
            obtain ⟨br, or, rfl, hbr, x0⟩ := cell_int (own_is HR7.out).2.2.2.2 hrl
            have hri : rest[r]? = some rest[r] := List.getElem?_eq_getElem hrl
            generalize rest[r] = xv at x0 hri hmem
            obtain ⟨x, rfl⟩ : ∃ x : Nat, xv = (x : Int) := ⟨xv.toNat, by omega⟩
            have hxn : x < n := by have := KN.out; omega
            have hts := take_succ hri
            have hcx : (T ++ rest.take r).count (x : Int) = 0 := by
              have h1 := ON.out x (by omega)
              have h2 : (rest.take (r + 1)).count (x : Int) ≤ rest.count (x : Int) := (List.take_sublist _ _).count_le _
              rw [hts, List.count_append, List.count_singleton] at h2
              simp only [beq_self_eq_true, if_true] at h2
              rw [List.count_append]
              omega
            obtain ⟨c0, fz, st⟩ := own_int HOM.out (k := x) (by rw [cntM_len]; exact hxn)
            rw [cntM_at, hcx] at c0
            have c0 : wr.cell? ⟨g, x, none⟩ = some (.int .i64 0) := c0
            have HOM2 : Hid (kI.Own (wr.setCell ⟨g, x, none⟩ (.int .i64 1)) w4.heap.size (.slice (some ⟨g, 0, none⟩) n n) (cntM n (T ++ rest.take (r + 1)))) := Lib.hid (by rw [hts, ← List.append_assoc, cntM_set hxn hcx]; exact st 1)
            have HR8 : Hid (kI.Own (wr.setCell ⟨g, x, none⟩ (.int .i64 1)) D (.slice (some ⟨br, or, none⟩) n7 c7) rest) := Lib.hid (own_far HR7.out hgw)
            have HB8 : Hid (Below w4.heap.size w4 (wr.setCell ⟨g, x, none⟩ (.int .i64 1))) := Lib.hid (HB7.out.trans ((set_but wr g x _).to_below (fun i _ hi => by have := HG.out; omega) HB7.out.size))
            have f1 : decide ((n : Int) ≤ (x : Int)) = false := by simp; omega
            have f2 : decide ((x : Int) < 0) = false := by simp
            clear st hcx hts hri hmem hrl HOM HR7
            go_wp2_with fail
            go_roundw
            case rel => exact ⟨r + 1, by omega, by go_num, HOM2, HR8, HB8⟩
            case measure => simp [intOf]; omega
          · obtain rfl : r = n7 := by omega
            have HOF : Hid (kI.Own wr w4.heap.size (.slice (some ⟨g, 0, none⟩) n n) (cntM n (T ++ rest))) := Lib.hid (by have := HOM.out; rw [List.take_of_length_le (by omega)] at this; exact this)
            have BF : Hid (Below w.heap.size w wr) := Lib.hid (B2.out.trans ((X4.out.trans (HB7.out.mono X4.out.size)).mono B2.out.size))
            clear HOM HR7 HB7
            obtain ⟨wf, rfl⟩ : ∃ wo : World, wo = wr := ⟨_, rfl⟩
            go_wp2_with fail
            go_loopw [15] (fun s15 wr => ∃ (k : Nat), k ≤ n ∧ s15 = .int .i64 k ∧ Hid (Below wf.heap.size wf wr)) (fun s _ => n - (intOf s).toNat)
            case atStart => exact ⟨0, by omega, rfl, Lib.hid (Below.refl _ _)⟩
            case round =>
              obtain ⟨k, hk, rfl, HX⟩ := hrel
              by_cases hkn : k < n
              · obtain ⟨c0, _, _⟩ := own_int (HOF.out.below HX.out (Nat.le_refl _)) (k := k) (by rw [cntM_len]; exact hkn)
                rw [cntM_at, List.count_append, ON.out k (by have := KN.out; omega)] at c0
                have c0 : wr.cell? ⟨g, k, none⟩ = some (.int .i64 1) := c0
                go_wp2_with fail
                go_roundw
                case rel => exact ⟨k + 1, by omega, by go_num, HX⟩
                case measure => simp [intOf]; omega
              · obtain rfl : k = n := by omega
                go_wp2_with fail
                go_ret
                exact ⟨rfl, BF.out.trans (HX.out.mono BF.out.size)⟩
end Go.Proofs.Ytcdcgdblchchkaa.P16
