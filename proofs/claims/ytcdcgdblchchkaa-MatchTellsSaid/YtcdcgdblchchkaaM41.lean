/- The contract of the program's match. No condition but those stated. -/
import Derived.Test.YtcdcgdblchchkaaM21
import Derived.Test.YtcdcgdblchchkaaM39
import Derived.Test.YtcdcgdblchchkaaM40
set_option linter.unusedVariables false
set_option linter.unusedSimpArgs false
set_option linter.unusedVariables false
set_option linter.unusedSimpArgs false
namespace Go.Proofs.Ytcdcgdblchchkaa.P16
open Go.RowKit Kd P4 P5 P11 P12 P13 P14 Mv

set_option maxRecDepth 100000
/-- ahead of a round of Of -/
structure OfRel (w w2 : World) (B p g h m t0 : Nat) (A : Option Addr) (n c : Nat) (old : List Ol) (ws : List PW) (n' j : Nat) (A3 : Option Addr) (n3 c3 : Nat) (wr : World) : Prop where
  lf : LfE wr B p g h m A n c old (foldM old (ws.take j)).left
  tk : kI.Own wr w2.heap.size (.slice (some ⟨t0, 0, none⟩) n' n') ((foldM old (ws.take j)).take ++ List.replicate (n' - j) 0)
  kp : kI.Own wr w2.heap.size (.slice A3 n3 c3) (foldM old (ws.take j)).kept
  ap : (Value.slice A3 n3 c3).ownBlock ≠ some t0
  res : wr.heap[w.heap.size]? = some (.cells #[.slice none 0 0, .slice none 0 0, .slice none 0 0] 34 (0, 0))
  hb : Below w.heap.size w wr
theorem LfE.below {w w' : World} {C B p g h m : Nat} {A : Option Addr} {n c : Nat} {old : List Ol} {left : List Bool} (x : LfE w B p g h m A n c old left) (hb : Below C w w') (h1 : B ≤ C) (h2 : p < C) (h3 : g < C) (h4 : h < C) (h5 : m < C) : LfE w' B p g h m A n c old left := by
  obtain ⟨F, s, f, nl, x⟩ := x
  exact ⟨F, s, f, nl, x.below hb h1 h2 h3 h4 h5⟩
theorem set_at {l : List Int} {j r : Nat} (h : l.length = j) (v : Int) : (l ++ List.replicate (r + 1) 0).set j v = l ++ [v] ++ List.replicate r 0 := by
  subst h
  rw [List.set_append_right _ _ (Nat.le_refl _), Nat.sub_self, List.replicate_succ, List.set_cons_zero, List.append_assoc]
  rfl
theorem ownI_is {w : World} {D : Nat} {A : Option Addr} {n c : Nat} {l : List Int} (h : kI.Own w D (.slice A n c) l) : l.length = n ∧ n ≤ c ∧ (A = none → c = 0) ∧ kI.Holds w w.heap.size A l := by
  obtain ⟨A', n', c', hv, e1, e2, e3, e4, e5⟩ := h.slice
  injection hv with h1 h2 h3
  subst h1; subst h2; subst h3
  exact ⟨e1, e2, e4, e5⟩
theorem three_set (w : World) (b : Nat) (u0 u1 u2 : Value) : But (fun i => i = b) w (((w.setCell ⟨b, 0, none⟩ u0).setCell ⟨b, 1, none⟩ u1).setCell ⟨b, 2, none⟩ u2) :=
  But.setCell (S := fun i => i = b) (p := ⟨b, 2, none⟩) (But.setCell (S := fun i => i = b) (p := ⟨b, 1, none⟩) (But.setCell (S := fun i => i = b) (p := ⟨b, 0, none⟩) (But.refl _ _) (fun _ => rfl) _) (fun _ => rfl) _) (fun _ => rfl) _
set_option maxHeartbeats 16000000 in
theorem match_c : MatchC := by
  intro old A n c ts A' n' c' w hh hsz hn hnc hcm hs hm hwf hwt
  have B0 : Hid (Below w.heap.size w (w.alloc (.cells #[.slice none 0 0, .slice none 0 0, .slice none 0 0] 34))) := Lib.hid ((Below.refl _ _).alloc (Nat.le_refl _) _)
  have R0 : Hid ((w.alloc (.cells #[.slice none 0 0, .slice none 0 0, .slice none 0 0] 34)).heap[w.heap.size]? = some (.cells #[.slice none 0 0, .slice none 0 0, .slice none 0 0] 34 (0, 0))) := Lib.hid (heap_alloc_new w _)
  have HSZ := Lib.hid hsz
  have HN := Lib.hid hn
  have HH := Lib.hid hh
  have HM := Lib.hid hm
  have HWF := Lib.hid hwf
  have hlen := hm.len
  have HL := Lib.hid hlen
  have EL : Hid ((erL ts).length = n') := Lib.hid (by rw [erL_map]; simpa using hlen)
  have hn1 : n' ≤ 1000 := by have := wtL_len (erL ts); have := EL.out; omega
  have hmk := make_intsW n' (by omega)
  clear hh hsz hn hm hwf hlen hwt hnc hcm
  go_enter Try.func7, Try.ntmps7
  go_upto_region 1 with fail
  generalize w.alloc (.cells #[.slice none 0 0, .slice none 0 0, .slice none 0 0] 34) = w1 at B0 R0 ⊢
  have CN := Lib.hid (newLeft_any old A n c w1 (HH.out.on B0.out) HSZ.out HN.out hs)
  go_wp2_with fail
  refine CN.out.mono ?_
  rintro e w2 ⟨p, g, h, m, s, f, nl, rfl, x2, b2⟩
  have X2 := Lib.hid x2
  have B2 := Lib.hid (B0.out.trans (b2.mono B0.out.size))
  have R2 := Lib.hid ((b2.block _ (heap_lt R0.out)).trans R0.out)
  have PR : Hid (w.heap.size < w1.heap.size ∧ w1.heap.size ≤ w2.heap.size ∧ w1.heap.size ≤ p ∧ w1.heap.size ≤ g ∧ w1.heap.size ≤ m) := Lib.hid ⟨heap_lt R0.out, b2.size, x2.Bp, x2.Bg, x2.Bm⟩
  have LT : Hid (p < w2.heap.size ∧ g < w2.heap.size ∧ h < w2.heap.size ∧ m < w2.heap.size) := Lib.hid ⟨x2.plt, (x2.own.lt rfl).2, (x2.nx.lt rfl).2, x2.map.lt⟩
  clear x2 b2 CN B0 R0
  go_upto_region 3 with fail
  have XM := Lib.hid (X2.out.alloc (.cells (madeCells #[.int .i64 0] n') 3))
  have OM : Hid (kI.Own (w2.alloc (.cells (madeCells #[.int .i64 0] n') 3)) w2.heap.size (.slice (some ⟨w2.heap.size, 0, none⟩) n' n') (List.replicate n' 0)) := Lib.hid (Kind.own_mk (by simp) (Nat.le_refl _) (heap_alloc_new w2 _) (Nat.le_refl _) (by unfold maxLen; omega) (by rw [size_madeCells]; exact (Nat.mul_one n').symm) (by rw [toList_madeCells_one, List.take_of_length_le (by simp [kI]), cells_repI]))
  have ST : Hid (OfRel w w2 w1.heap.size p g h m w2.heap.size A n c old (erL ts) n' 0 none 0 0 (w2.alloc (.cells (madeCells #[.int .i64 0] n') 3))) := Lib.hid {
    lf := ⟨0, s, f, nl, by
      have e : (foldM old ((erL ts).take 0)).left = List.replicate n true := by rw [List.take_zero]; show List.replicate old.length true = _; rw [HN.out]
      rw [e]
      exact XM.out⟩
    tk := by
      have e : (foldM old ((erL ts).take 0)).take = [] := by rw [List.take_zero]; rfl
      rw [e, Nat.sub_zero, List.nil_append]
      exact OM.out
    kp := by
      have e : (foldM old ((erL ts).take 0)).kept = [] := by rw [List.take_zero]; rfl
      rw [e]
      exact Kind.Own.nil kI _ _
    ap := fun e => by cases e
    res := heap_up R2.out
    hb := B2.out.alloc B2.out.size _ }
  clear XM OM X2 B2 R2 hmk
  generalize ht0 : w2.heap.size = t0 at ST ⊢
  go_wp2_with fail
  go_loopw [7, 17] (fun s7 s17 wr => ∃ (j : Nat) (A3 : Option Addr) (n3 c3 : Nat), j ≤ n' ∧ s17 = .int .i64 j ∧ s7 = .slice A3 n3 c3 ∧ Hid (OfRel w w2 w1.heap.size p g h m t0 A n c old (erL ts) n' j A3 n3 c3 wr)) (fun _ s17 _ => n' - (intOf s17).toNat)
  case atStart => exact ⟨0, none, 0, 0, Nat.zero_le _, rfl, rfl, ST⟩
  case round =>
    obtain ⟨j, A3, n3, c3, hj, rfl, rfl, HR⟩ := hrel
    clear ST
    have hlens := foldM_lens old ((erL ts).take j)
    have hleft := foldM_left old ((erL ts).take j)
    rw [List.length_take, EL.out, Nat.min_eq_left hj] at hlens
    by_cases hjn : j < n'
    · have hjl : j < ts.length := by have := HL.out; omega
      have hje : j < (erL ts).length := by have := EL.out; omega
      have SN := Lib.hid (foldM_snoc (old := old) hje)
      rw [erL_at hjl hje] at SN
      have WT : Hid (WfW (er ts[j])) := Lib.hid (by rw [← erL_at hjl hje]; exact HWF.out _ (List.getElem_mem hje))
      obtain ⟨b', o', rfl, hb', y0', y1', y2', y3', y4', y5'⟩ := cell_of_w HM.out.holds hjl
      have y0 := (HR.out.hb.cell hb').trans y0'
      have y1 := (HR.out.hb.cell hb').trans y1'
      have y2 := (HR.out.hb.cell hb').trans y2'
      have y3 := (HR.out.hb.cell hb').trans y3'
      have y4 := (HR.out.hb.cell hb').trans y4'
      have y5 := (HR.out.hb.cell hb').trans y5'
      have HKD : Hid ((er ts[j]).kind = ts[j].kind) := Lib.hid (by rw [er_parts]; rfl)
      clear y0' y1' y2' y3' y4' y5' hje
      generalize ts[j] = t at y0 y1 y2 y3 y4 y5 SN WT HKD
      clear hjl
      generalize hst : foldM old ((erL ts).take j) = st at SN hlens hleft
      have TK := HR.out.tk
      have KP := HR.out.kp
      have LF := HR.out.lf
      rw [hst] at TK KP LF
      obtain ⟨left, take, kept⟩ := st
      simp only at TK KP LF hlens hleft
      have HTL : Hid (take.length = j) := Lib.hid hlens.1
      have HKL : Hid (kept.length ≤ 1000000) := Lib.hid (by
        have h1 : j * old.length ≤ 1000 * 1000 := Nat.mul_le_mul (by omega) (by have := HN.out; omega)
        omega)
      have HLL : Hid (left.length = n) := Lib.hid (by have := HN.out; omega)
      clear hst hlens hleft
      go_upto_region 7 with fail
      have BW : Hid (Below w.heap.size w (wr.alloc (.cells #[.int .i64 t.kind, .string t.tag, .string t.key, .string t.txt, .slice t.sa.A t.sa.n t.sa.c, .slice t.sk.A t.sk.n t.sk.c] 44))) := Lib.hid (HR.out.hb.alloc HR.out.hb.size _)
      have X9 : Hid ((wr.alloc (.cells #[.int .i64 t.kind, .string t.tag, .string t.key, .string t.txt, .slice t.sa.A t.sa.n t.sa.c, .slice t.sk.A t.sk.n t.sk.c] 44)).heap[wr.heap.size]? = some (.cells #[.int .i64 t.kind, .string t.tag, .string t.key, .string t.txt, .slice t.sa.A t.sa.n t.sa.c, .slice t.sk.A t.sk.n t.sk.c] 44 (0, 0))) := Lib.hid (heap_alloc_new wr _)
      obtain ⟨F, s', f', nl', lf⟩ := LF
      have XW := Lib.hid (lf.alloc (.cells #[.int .i64 t.kind, .string t.tag, .string t.key, .string t.txt, .slice t.sa.A t.sa.n t.sa.c, .slice t.sk.A t.sk.n t.sk.c] 44))
      have TKW := Lib.hid (TK.alloc (.cells #[.int .i64 t.kind, .string t.tag, .string t.key, .string t.txt, .slice t.sa.A t.sa.n t.sa.c, .slice t.sk.A t.sk.n t.sk.c] 44))
      have KPW := Lib.hid (KP.alloc (.cells #[.int .i64 t.kind, .string t.tag, .string t.key, .string t.txt, .slice t.sa.A t.sa.n t.sa.c, .slice t.sk.A t.sk.n t.sk.c] 44))
      have RW : Hid ((wr.alloc (.cells #[.int .i64 t.kind, .string t.tag, .string t.key, .string t.txt, .slice t.sa.A t.sa.n t.sa.c, .slice t.sk.A t.sk.n t.sk.c] 44)).heap[w.heap.size]? = some (.cells #[.slice none 0 0, .slice none 0 0, .slice none 0 0] 34 (0, 0))) := Lib.hid (heap_up HR.out.res)
      have AP := Lib.hid HR.out.ap
      have B9 : Hid (t0 < wr.heap.size ∧ p < wr.heap.size ∧ g < wr.heap.size ∧ m < wr.heap.size ∧ w2.heap.size ≤ t0) := Lib.hid ⟨(TK.lt (g := t0) rfl).2, lf.plt, (lf.own.lt (g := g) rfl).2, lf.map.lt, (TK.lt (g := t0) rfl).1⟩
      clear TK KP lf HR y0 y1 y2 y3 y4 y5
      generalize wr.heap.size = b9 at X9 B9 ⊢
      generalize (wr.alloc (.cells #[.int .i64 t.kind, .string t.tag, .string t.key, .string t.txt, .slice t.sa.A t.sa.n t.sa.c, .slice t.sk.A t.sk.n t.sk.c] 44)) = W at BW X9 XW TKW KPW RW ⊢
      have z0 : W.cell? ⟨b9, 0, none⟩ = some (.int .i64 t.kind) := cell_of_row W b9 0 _ _ (0, 0) X9.out
      have z1 : W.cell? ⟨b9, 1, none⟩ = some (.string t.tag) := cell_of_row W b9 1 _ _ (0, 0) X9.out
      have z2 : W.cell? ⟨b9, 2, none⟩ = some (.string t.key) := cell_of_row W b9 2 _ _ (0, 0) X9.out
      have z3 : W.cell? ⟨b9, 3, none⟩ = some (.string t.txt) := cell_of_row W b9 3 _ _ (0, 0) X9.out
      have z4 : W.cell? ⟨b9, 4, none⟩ = some (.slice t.sa.A t.sa.n t.sa.c) := cell_of_row W b9 4 _ _ (0, 0) X9.out
      have z5 : W.cell? ⟨b9, 5, none⟩ = some (.slice t.sk.A t.sk.n t.sk.c) := cell_of_row W b9 5 _ _ (0, 0) X9.out
      have CT := Lib.hid (take_any XW.out t WT.out)
      obtain ⟨av, hav⟩ : ∃ a, (scanM (er t) old left old.length).1 = a := ⟨_, rfl⟩
      have SN2 : Hid ((t.kind = 4 → foldM old ((erL ts).take (j + 1)) = ⟨List.replicate old.length false, take ++ [av], kept ++ idxM (leftM left av) old.length⟩) ∧ (¬ t.kind = 4 → foldM old ((erL ts).take (j + 1)) = ⟨leftM left av, take ++ [av], kept⟩)) := Lib.hid (by
        rw [SN.out, stepM, HKD.out]
        simp only [hav]
        exact ⟨fun h => by rw [if_pos h], fun h => by rw [if_neg h]⟩)
      rw [hav] at CT
      clear hav SN HKD
      obtain ⟨r, hr⟩ : ∃ r, n' - j = r + 1 := ⟨n' - j - 1, by omega⟩
      rw [hr] at TKW
      have HRR : Hid (n' - (j + 1) = r) := Lib.hid (by omega)
      clear hr
      go_wp2_with fail
      refine CT.out.mono ?_
      rintro e w7 ⟨rfl, lf7, b7⟩
      have LF7 := Lib.hid lf7
      have TK7 := Lib.hid (TKW.out.but b7 (XW.out.noI TKW.out))
      have KP7 := Lib.hid (KPW.out.but b7 (XW.out.noI KPW.out))
      have X97 := Lib.hid ((b7.block b9 (heap_lt X9.out) (fun e => by have := B9.out; rcases e with e | e | e <;> omega)).trans X9.out)
      have R7 := Lib.hid ((b7.block _ (heap_lt RW.out) (fun e => by have := PR.out; rcases e with e | e | e <;> omega)).trans RW.out)
      have BW7 : Hid (Below w.heap.size w w7) := Lib.hid (BW.out.trans (b7.to_below (fun i _ e => by have := PR.out; rcases e with e | e | e <;> omega) BW.out.size))
      obtain ⟨f7, c7, own8⟩ := own_int_set TK7.out (k := j) (by have := HTL.out; simp; omega) av
      obtain ⟨u7, hu7⟩ := Option.isSome_iff_exists.1 c7
      have hS : Below w2.heap.size w7 (w7.setCell ⟨t0, j, none⟩ (.int .i64 av)) := (set_but w7 t0 j _).to_below (fun i _ e => by have := B9.out; omega) (by have := (TK7.out.lt (g := t0) rfl); omega)
      have LF8 := Lib.hid (LF7.out.below hS PR.out.2.1 LT.out.1 LT.out.2.1 LT.out.2.2.1 LT.out.2.2.2)
      have TK8 : Hid (kI.Own (w7.setCell ⟨t0, j, none⟩ (.int .i64 av)) w2.heap.size (.slice (some ⟨t0, 0, none⟩) n' n') ((take ++ [av]) ++ List.replicate r 0)) := Lib.hid (by rw [← set_at HTL.out av]; exact own8)
      have KP8 := Lib.hid (KP7.out.but (set_but w7 t0 j (.int .i64 av)) (fun i hi e => AP.out (by rw [hi, e])))
      have X98 := Lib.hid (((set_but w7 t0 j (.int .i64 av)).block b9 (heap_lt X97.out) (fun e => by have := B9.out; omega)).trans X97.out)
      have R8 := Lib.hid (((set_but w7 t0 j (.int .i64 av)).block w.heap.size (heap_lt R7.out) (fun e => by have := B9.out; have := PR.out; omega)).trans R7.out)
      have BW8 : Hid (Below w.heap.size w (w7.setCell ⟨t0, j, none⟩ (.int .i64 av))) := Lib.hid (BW7.out.trans (hS.mono (by have := PR.out; omega)))
      clear b7 lf7 c7 own8 hS CT z0 z1 z2 z3 z4 z5 TKW KPW XW RW BW X9
      go_upto_region 8 with fail
      clear f7 hu7 TK7 KP7 LF7 X97 R7 BW7
      generalize w7.setCell ⟨t0, j, none⟩ (.int .i64 av) = w8 at LF8 TK8 KP8 X98 R8 BW8 ⊢
      have z0 : w8.cell? ⟨b9, 0, none⟩ = some (.int .i64 t.kind) := cell_of_row w8 b9 0 _ _ (0, 0) X98.out
      by_cases h4 : t.kind = 4
      · rw [h4] at z0
        have sn3 := SN2.out.1 h4
        rw [HN.out] at sn3
        have SN3 := Lib.hid sn3
        clear sn3
        obtain ⟨F8, s8, f8, nl8, lf8⟩ := LF8.out
        have L8 := Lib.hid lf8
        have CA := Lib.hid (takeAll_any lf8)
        clear lf8 LF8 SN2
        go_wp2_with fail
        refine CA.out.mono ?_
        rintro e w9 ⟨A4, n4, c4, rfl, own4, lf9, b9'⟩
        have O4 := Lib.hid own4
        have LF9 := Lib.hid lf9
        have TK9 := Lib.hid (TK8.out.but b9' (L8.out.noI TK8.out))
        have KP9 := Lib.hid (KP8.out.but b9' (L8.out.noI KP8.out))
        have R9 := Lib.hid ((b9'.block _ (heap_lt R8.out) (fun e => by have := PR.out; rcases e with e | e | e <;> omega)).trans R8.out)
        have BW9 : Hid (Below w.heap.size w w9) := Lib.hid (BW8.out.trans (b9'.to_below (fun i _ e => by have := PR.out; rcases e with e | e | e <;> omega) BW8.out.size))
        have CC9 : Hid (t0 < w9.heap.size ∧ w2.heap.size ≤ w9.heap.size) := Lib.hid ⟨(TK9.out.lt (g := t0) rfl).2, by have := (TK9.out.lt (g := t0) rfl); omega⟩
        have OS := O4.out.slice
        obtain ⟨A', m', d', hv, e1, e2, e3, e4, e5⟩ := OS
        injection hv with q1 q2 q3
        subst q1; subst q2; subst q3
        have E1 := Lib.hid e1
        have E4 := Lib.hid e4
        have E5 := Lib.hid e5
        have hil := idxM_len (leftM left av) n
        rw [e1] at hil
        clear b9' lf9 own4 e1 e2 e3 e4 e5 z0 CA
        go_upto_region 10 with (at_builtin; refine kI.wp_app rfl _ _ rfl (v := .slice A3 n3 c3) (l := kept) (m := idxM (leftM left av) n) (B := w2.heap.size) (A := A4) (n := n4) (c := c4) rfl KP9.out rfl E1.out E4.out E5.out (by have := HKL.out; omega) CC9.out.2 ?_; intro v' w10 hown hgrow hat; obtain ⟨A5, n5, c5, rfl, _, _, _, _, _⟩ := hown.slice; have K10 := Lib.hid hown; have S10 : Hid (Below w2.heap.size w9 w10) := Lib.hid ((Below.refl _ _).grown hgrow CC9.out.2 (fun i hi => (KP9.out.lt hi).1)); have T10 := Lib.hid (TK9.out.grown hgrow (fun i hi e => AP.out (by rw [e, ← hi]; rfl))); have R10 := Lib.hid ((hgrow.block _ (heap_lt R9.out) (fun e => by have := (KP9.out.lt e.symm).1; have := PR.out; omega)).trans R9.out); have P10 : Hid ((Value.slice A5 n5 c5).ownBlock ≠ some t0) := Lib.hid (fun e => hat.elim (fun q => AP.out (q.symm.trans e)) (fun q => by have := CC9.out; rw [q] at e; have := Option.some.inj e; omega)); clear hown hgrow hat)
        have L10 := Lib.hid (LF9.out.below S10.out PR.out.2.1 LT.out.1 LT.out.2.1 LT.out.2.2.1 LT.out.2.2.2)
        have B10 : Hid (Below w.heap.size w w10) := Lib.hid (BW9.out.trans (S10.out.mono (by have := PR.out; omega)))
        have REL : Hid (OfRel w w2 w1.heap.size p g h m t0 A n c old (erL ts) n' (j + 1) A5 n5 c5 w10) := Lib.hid {
          lf := by rw [SN3.out]; exact L10.out
          tk := by rw [SN3.out, HRR.out]; exact T10.out
          kp := by rw [SN3.out]; exact K10.out
          ap := P10.out
          res := R10.out
          hb := B10.out }
        go_wp2_with fail
        go_roundw
        case rel => exact ⟨j + 1, A5, n5, c5, by omega, by go_num, rfl, REL⟩
        case measure => simp [intOf]; omega
      · have SN3 := Lib.hid (SN2.out.2 h4)
        have q4 := int_ne h4
        have REL : Hid (OfRel w w2 w1.heap.size p g h m t0 A n c old (erL ts) n' (j + 1) A3 n3 c3 w8) := Lib.hid {
          lf := by rw [SN3.out]; exact LF8.out
          tk := by rw [SN3.out, HRR.out]; exact TK8.out
          kp := by rw [SN3.out]; exact KP8.out
          ap := AP.out
          res := R8.out
          hb := BW8.out }
        go_wp2_with fail
        go_roundw
        case rel => exact ⟨j + 1, A3, n3, c3, by omega, by go_num, rfl, REL⟩
        case measure => simp [intOf]; omega
    · obtain rfl : j = n' := by omega
      have e : (erL ts).take j = erL ts := List.take_of_length_le (by have := EL.out; omega)
      rw [e] at hlens hleft
      have HR2 := HR.out
      have TK := HR2.tk
      have KP := HR2.kp
      obtain ⟨F, s', f', nl', lf⟩ := HR2.lf
      rw [e] at TK KP lf
      rw [Nat.sub_self, List.replicate_zero, List.append_nil] at TK
      have TK0 := Lib.hid TK
      have KP0 := Lib.hid KP
      have L0 := Lib.hid lf
      have R0 := Lib.hid HR2.res
      have BW0 := Lib.hid HR2.hb
      have CA := Lib.hid (takeAll_any lf)
      have HWW : Hid (w.heap.size < wr.heap.size) := Lib.hid (heap_lt R0.out)
      have HTL : Hid ((foldM old (erL ts)).take.length = j) := Lib.hid hlens.1
      clear HR HR2 TK KP lf e hleft hlens
      go_wp2_with fail
      refine CA.out.mono ?_
      rintro e w9 ⟨A4, n4, c4, rfl, own4, lf9, b9⟩
      have O4 := Lib.hid own4
      have TK9 := Lib.hid (TK0.out.but b9 (L0.out.noI TK0.out))
      have KP9 := Lib.hid (KP0.out.but b9 (L0.out.noI KP0.out))
      have R9 := Lib.hid ((b9.block _ (heap_lt R0.out) (fun e => by have := PR.out; rcases e with e | e | e <;> omega)).trans R0.out)
      have BW9 : Hid (Below w.heap.size w w9) := Lib.hid (BW0.out.trans (b9.to_below (fun i _ e => by have := PR.out; rcases e with e | e | e <;> omega) BW0.out.size))
      have hzl : w.heap.size < w9.heap.size := heap_lt R9.out
      have r0 : w9.cell? ⟨w.heap.size, 0, none⟩ = some (.slice none 0 0) := cell_of_row w9 _ 0 _ _ (0, 0) R9.out
      have r1 : w9.cell? ⟨w.heap.size, 1, none⟩ = some (.slice none 0 0) := cell_of_row w9 _ 1 _ _ (0, 0) R9.out
      have r2 : w9.cell? ⟨w.heap.size, 2, none⟩ = some (.slice none 0 0) := cell_of_row w9 _ 2 _ _ (0, 0) R9.out
      have rf : ∀ i, w9.frozen? ⟨w.heap.size, i, none⟩ = false := fun i => by have hb := R9.out; simp [World.frozen?, hb]
      clear own4 lf9 b9 CA TK0 KP0 L0 R0 BW0
      go_wp2_with fail
      refine bodyPost_ret (v := .agg #[.slice (some ⟨t0, 0, none⟩) j j, .slice A3 n3 c3, .slice A4 n4 c4]) (by simp [results, Try.results7, go_sem, r0, r1, r2, hzl]) rfl ⟨_, _, _, _, _, _, _, _, _, rfl, ?_, ?_⟩
      · have hb := three_set w9 w.heap.size (.slice (some ⟨t0, 0, none⟩) j j) (.slice A3 n3 c3) (.slice A4 n4 c4)
        have h1 := ownI_is (TK9.out.but hb (fun i hi e => by have := (TK9.out.lt hi).1; have := PR.out; omega))
        have h2 := ownI_is (KP9.out.but hb (fun i hi e => by have := (KP9.out.lt hi).1; have := PR.out; omega))
        have h3 := ownI_is (O4.out.but hb (fun i hi e => by have := (O4.out.lt hi).1; have := HWW.out; omega))
        rw [← HN.out] at h3
        exact ⟨h1.1, h2.1, h3.1, h1.2.2.2, h2.2.2.2, h3.2.2.2, h1.2.1, h2.2.1, h3.2.1, h1.2.2.1, h2.2.2.1, h3.2.2.1⟩
      · exact BW9.out.trans ((three_set w9 w.heap.size _ _ _).to_below (fun i _ e => by omega) BW9.out.size)
end Go.Proofs.Ytcdcgdblchchkaa.P16
