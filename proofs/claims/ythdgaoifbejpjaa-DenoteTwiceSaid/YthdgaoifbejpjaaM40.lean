/- What the program's denote.Of answers: the contract DenC. No condition. -/
import Derived.Test.YthdgaoifbejpjaaM39
set_option linter.unusedVariables false
set_option linter.unusedSimpArgs false
namespace Go.Proofs.Ythdgaoifbejpjaa.P17
open Go.RowKit Kd P4 P5 P11 P12 P13 P14 P16
set_option linter.unusedSimpArgs false
set_option linter.unusedVariables false

theorem wf_kidsP {e : PW} (h : WfW e) : ∀ k ∈ e.kids, WfW k := by
  cases h with
  | el _ _ hk => exact hk
  | vo => exact fun k hk => by cases hk
  | tx => exact fun k hk => by cases hk
  | nd => exact fun k hk => by cases hk
  | al => exact fun k hk => by cases hk
theorem name_small {s : ByteArray} (h : P1.nameB s.data.toList = true) : s.size ≤ maxLen := by
  have hs : s.data.toList.length = s.size := by simp
  revert h
  cases hl : s.data.toList with
  | nil => rw [hl] at hs; simp at hs; unfold maxLen; omega
  | cons c r =>
    intro h
    simp only [P1.nameB, Bool.and_eq_true, decide_eq_true_eq] at h
    rw [hl] at hs; simp at hs; unfold maxLen; omega
theorem text_small {s : ByteArray} (h : P1.textB s.data.toList = true) : s.size ≤ maxLen := by
  have hs : s.data.toList.length = s.size := by simp
  simp only [P1.textB, Bool.and_eq_true, decide_eq_true_eq] at h
  unfold maxLen; omega
theorem empty_small {s : ByteArray} (h : s.toList.isEmpty = true) : s.size ≤ maxLen := by
  rw [ByteArray.toList_eq, List.isEmpty_iff] at h
  have hs : s.data.toList.length = s.size := by simp
  rw [h] at hs; simp at hs; unfold maxLen; omega
theorem may_names {t : P8.PT} (h : P8.mayP t = true) : t.tag.size ≤ maxLen ∧ t.key.size ≤ maxLen := by
  obtain ⟨tag, txt, key, attrs, kids⟩ := t
  rw [P8.mayP] at h
  split at h
  · rename_i h0
    simp only [Bool.and_eq_true] at h
    exact ⟨empty_small h0, empty_small h.1.1.2⟩
  · simp only [Bool.and_eq_true] at h
    exact ⟨name_small h.1.1.1.1.1, text_small h.1.1.1.1.2⟩
theorem may_at17 {l : List P8.PT} (h : P8.mayL l = true) {t : P8.PT} (ht : t ∈ l) : P8.mayP t = true := by
  rw [P8.mayL_all, List.all_eq_true] at h
  exact h t ht
theorem count_at17 : ∀ {l : List P8.PT} {t : P8.PT}, t ∈ l → P8.countP t ≤ P8.countL l
  | a :: l, t, h => by
    rw [P8.countL]
    rcases List.mem_cons.1 h with rfl | h
    · omega
    · have := count_at17 h; omega
theorem at_no (os : List P8.TV) (A : Option Addr) (n c : Nat) (a : Int) (w : World) (ha : a < 0) : Calls Try.prog 21 #[.slice A n c, .int .i64 a] w (fun e w' => e = .returned (.slice none 0 0) ∧ w = w') := by
  have q0 : decide (a < 0) = true := by simpa using ha
  go_enter Try.func21, Try.ntmps21
  go_wp2_with fail
  go_ret
  exact ⟨rfl, rfl⟩
theorem at_yes (os : List P8.TV) (b o n c x : Nat) (w : World) (hn : os.length = n) (hnc : n ≤ c) (hn2 : n ≤ 200) (hh : P8.kT.Holds w w.heap.size (some ⟨b, o, none⟩) os) (hx : x < os.length) : Calls Try.prog 21 #[.slice (some ⟨b, o, none⟩) n c, .int .i64 (x : Int)] w (fun e w' => e = .returned (.slice (some ⟨b, o + x * 5, none⟩) 1 (c - x)) ∧ w = w') := by
  refine (at_any os (some ⟨b, o, none⟩) n c x w hn hnc hn2 hh (by omega) (by omega)).mono ?_
  rintro e w' ⟨rfl, ⟨h, _⟩ | ⟨x', b', o', e1, _, e2, rfl⟩⟩
  · omega
  · injection e2 with e2
    injection e2 with e2 e3
    obtain rfl : x = x' := by omega
    subst e2; subst e3
    exact ⟨rfl, rfl⟩
theorem one_tree {w : World} {b o x : Nat} {os : List P8.TV} (h : P8.kT.Holds w w.heap.size (some ⟨b, o, none⟩) os) (hx : x < os.length) : P8.kT.Holds w w.heap.size (some ⟨b, o + x * 5, none⟩) [os[x]] := by
  have h1 := (h.drop x).take 1
  rw [List.drop_eq_getElem_cons hx, List.take_succ_cons, List.take_zero] at h1
  exact h1
/-- a slice of one's own grows by some -/
theorem tq_grewB {w5 wa w7 : World} {D : Nat} {A A7 : Option Addr} {n c n7 c7 : Nat} {l m : List P8.TV} {Q : Nat → Prop} (own : P8.kT.Own w5 D (.slice A n c) l)
    (ks : ∀ k ∈ l, TQ w5 (fun b => Q b ∧ (Value.slice A n c).ownBlock ≠ some b) k) (hk : ∀ k ∈ m, TQ w5 (fun b => Q b ∧ (Value.slice A n c).ownBlock ≠ some b) k) (h0 : Below w5.heap.size w5 wa) (hg : wa.grownBy w7 (Value.slice A n c).ownBlock)
    (hat : (Value.slice A7 n7 c7).ownBlock = (Value.slice A n c).ownBlock ∨ (Value.slice A7 n7 c7).ownBlock = some wa.heap.size) :
    (∀ t ∈ l ++ m, TQ w7 (fun b => Q b ∧ (Value.slice A7 n7 c7).ownBlock ≠ some b) t) ∧ But (fun b => (Value.slice A n c).ownBlock = some b) w5 w7 := by
  have b7 : But (fun b => (Value.slice A n c).ownBlock = some b) w5 w7 := (But.of_below h0 _).trans (But.of_grown (S := fun i => (Value.slice A n c).ownBlock = some i) hg (fun i hi _ => hi)) (fun _ _ h => h)
  have hsz := h0.size
  have key' : ∀ k : P8.TV, TQ w5 (fun b => Q b ∧ (Value.slice A n c).ownBlock ≠ some b) k → TQ w7 (fun b => Q b ∧ (Value.slice A7 n7 c7).ownBlock ≠ some b) k := by
    intro k h
    have h1 : TQ w5 (fun b => (Q b ∧ (Value.slice A n c).ownBlock ≠ some b) ∧ b < w5.heap.size) k := h.mono fun b hb hq => ⟨hq, hb⟩
    refine (h1.but b7 (fun b hq hs => hq.1.2 hs)).mono fun b _ hq => ⟨hq.1.1, fun e => ?_⟩
    rcases hat with h2 | h2
    · exact hq.1.2 (h2 ▸ e)
    · rw [h2] at e
      injection e with e
      have := hq.2
      omega
  refine ⟨fun t ht => ?_, b7⟩
  rcases List.mem_append.1 ht with h | h
  · exact key' t (ks t h)
  · exact key' t (hk t h)
def DnRel (w : World) (ws : List PW) (T kept : List Int) (old : List P8.PT) (K : Value) (s6 s7 s20 : Value) (wr : World) : Prop := ∃ (i : Nat) (A2 : Option Addr) (n2 c2 : Nat) (A' : Option Addr) (n' c' : Nat) (us : List P8.TV), i ≤ ws.length ∧ s20 = .int .i64 i ∧ s6 = .slice A2 n2 c2 ∧ s7 = .slice A' n' c' ∧
  Hid (i < ws.length → Value.slice A2 n2 c2 = K) ∧ Hid (us.map P8.er = goL (ws.take i) T kept old) ∧ Hid (P8.kT.Own wr w.heap.size (.slice A' n' c') us) ∧ Hid (∀ t ∈ us, TQ wr (fun b => w.heap.size ≤ b ∧ (Value.slice A' n' c').ownBlock ≠ some b) t) ∧ Hid (Below w.heap.size w wr)
def AlRel (w : World) (us0 : List P8.PT) (kept : List Int) (old : List P8.PT) (m : Nat) (s7 s65 : Value) (wr : World) : Prop := ∃ (q : Nat) (A' : Option Addr) (n' c' : Nat) (us : List P8.TV), q ≤ m ∧ s65 = .int .i64 q ∧ s7 = .slice A' n' c' ∧ Hid (us.map P8.er = us0 ++ (kept.take q).map (fun k => atP old k.toNat)) ∧
  Hid (P8.kT.Own wr w.heap.size (.slice A' n' c') us) ∧ Hid (∀ t ∈ us, TQ wr (fun b => w.heap.size ≤ b ∧ (Value.slice A' n' c').ownBlock ≠ some b) t) ∧ Hid (Below w.heap.size w wr)
set_option maxRecDepth 100000 in
set_option maxHeartbeats 32000000 in
theorem den_of (ts : List WV) (IH : ∀ t ∈ ts, DenK t.kids) : DenK ts := by
  intro A n c os A' n' c' w hm hwf hlp hw hh' hn' hnc' hok' hmy hct
  have KH := Lib.hid hm.holds
  have KL := Lib.hid hm.len
  have KS := Lib.hid hm.ok
  have KM := Lib.hid hm
  have KW := Lib.hid hw
  have KF := Lib.hid hwf
  have LP := Lib.hid hlp
  have OH := Lib.hid hh'
  have OL := Lib.hid hn'
  have OS := Lib.hid hok'
  have OC := Lib.hid hnc'
  have MY : Hid (∀ o ∈ os, P8.mayP (P8.er o) = true ∧ P8.countP (P8.er o) ≤ 200) := Lib.hid (fun o ho => by
    have h := List.mem_map_of_mem (f := P8.er) ho
    exact ⟨may_at17 hmy h, by have := count_at17 h; omega⟩)
  have HI : Hid (∀ t ∈ ts, DenK t.kids) := Lib.hid IH
  have EL : Hid ((erL ts).length = n) := Lib.hid (by rw [erL_map]; simpa using hm.len)
  have hn1 : n ≤ 150 := by have := wtL_len (erL ts); have := EL.out; omega
  have hn2 : n' ≤ 200 := by have := P8.len_le_count (os.map P8.er); rw [List.length_map] at this; omega
  have HOM : Hid ((os.map P8.er).map olP = os.map fun o => (⟨o.tag, o.key⟩ : Ol)) := Lib.hid (by rw [List.map_map]; refine List.map_congr_left fun o _ => ?_; simp [olP, P8.er_mk, P8.PT.tag, P8.PT.key])
  have OSZ : Hid (∀ o ∈ (os.map P8.er).map olP, o.tag.size ≤ maxLen ∧ o.key.size ≤ maxLen) := Lib.hid (fun o ho => by
    obtain ⟨t, ht, rfl⟩ := List.mem_map.1 ho
    exact may_names (may_at17 hmy ht))
  have CO := Lib.hid (olds_any os A' n' c' w hh' hn' (by omega))
  clear hm hw hwf hlp hh' hn' hok' hnc' hmy hct IH
  go_enter Try.func8, Try.ntmps8
  go_wp2_with fail
  refine CO.out.mono ?_
  rintro e w1 ⟨A3, n3, c3, rfl, own3, b1⟩
  have X1 := Lib.hid b1
  rw [← HOM.out] at own3
  have hU := own_isU own3
  have DR := Lib.hid (match_n _ A3 n3 c3 ts A n c w1 hU.2.2.2.2 OSZ.out hU.1 (by have h := hU.1; have := OL.out; simp at h; omega) (KM.out.on b1) KF.out (by have := KW.out; omega))
  clear own3 b1 hU CO OSZ KM
  go_wp2_with fail
  refine DR.out.mono ?_
  rintro e wM ⟨B1, m1, d1, B2, m2, d2, B3, m3, d3, rfl, r3, bM⟩
  have XM := Lib.hid (X1.out.trans (bM.mono X1.out.size))
  have hlens := foldM_lens ((os.map P8.er).map olP) (erL ts)
  have hone := once_fold ((os.map P8.er).map olP) (erL ts)
  have OLN : Hid (((os.map P8.er).map olP).length = n') := Lib.hid (by have := OL.out; simpa using this)
  have TR := Lib.hid hone.take
  have KR := Lib.hid hone.kept
  rw [OLN.out] at TR KR
  have TL : Hid ((foldM ((os.map P8.er).map olP) (erL ts)).take.length = n) := Lib.hid (by rw [hlens.1, EL.out])
  have KLn : Hid ((foldM ((os.map P8.er).map olP) (erL ts)).kept.length ≤ 30000) := Lib.hid (by have h1 := hlens.2; have h2 : (erL ts).length * ((os.map P8.er).map olP).length ≤ 150 * 200 := Nat.mul_le_mul (by have := EL.out; omega) (by have := OLN.out; omega); omega)
  have T1 := Lib.hid r3.h1
  have K1 := Lib.hid r3.h2
  have hm1 := r3.l1
  have hm2 := r3.l2
  have HD : Hid (denP (erL ts) (os.map P8.er) = goL (erL ts) (foldM ((os.map P8.er).map olP) (erL ts)).take (foldM ((os.map P8.er).map olP) (erL ts)).kept (os.map P8.er)) := Lib.hid rfl
  clear bM r3 hlens hone DR HOM X1
  generalize (foldM ((os.map P8.er).map olP) (erL ts)).take = T at TR TL T1 hm1 HD
  generalize (foldM ((os.map P8.er).map olP) (erL ts)).kept = kept at KR KLn K1 hm2 HD
  have hm1n : m1 = n := by have := TL.out; omega
  have hm2n : m2 ≤ 30000 := by have := KLn.out; omega
  clear hm1
  subst hm1n
  have XR : Hid ((wM.alloc (.cells #[.slice B1 m1 d1, .slice B2 m2 d2, .slice B3 m3 d3] 51)).heap[wM.heap.size]? = some (.cells #[.slice B1 m1 d1, .slice B2 m2 d2, .slice B3 m3 d3] 51 (0, 0))) := Lib.hid (heap_alloc_new wM _)
  have BR : Hid (Below wM.heap.size wM (wM.alloc (.cells #[.slice B1 m1 d1, .slice B2 m2 d2, .slice B3 m3 d3] 51))) := Lib.hid ((Below.refl _ _).alloc (Nat.le_refl _) _)
  go_upto_region 2 with fail
  obtain ⟨pr, hpr⟩ : ∃ p, wM.heap.size = p := ⟨_, rfl⟩
  have X2 := Lib.hid (XM.out.trans (BR.out.mono XM.out.size))
  have T2 := Lib.hid (T1.out.on BR.out)
  have K2 := Lib.hid (K1.out.on BR.out)
  generalize wM.alloc (.cells #[.slice B1 m1 d1, .slice B2 m2 d2, .slice B3 m3 d3] 51) = w2 at XR BR X2 T2 K2 ⊢
  rw [hpr] at XR ⊢
  have hp2 : pr < w2.heap.size := heap_lt XR.out
  have p1 : w2.cell? ⟨pr, 1, none⟩ = some (.slice B2 m2 d2) := cell_of_row w2 pr 1 _ _ (0, 0) XR.out
  clear hpr BR XM T1 K1
  have ST2 : Hid (DnRel w2 (erL ts) T kept (os.map P8.er) (.slice B2 m2 d2) (.slice B2 m2 d2) (.slice none 0 0) (.int .i64 0) w2) := Lib.hid ⟨0, B2, m2, d2, none, 0, 0, [], by omega, rfl, rfl, rfl, Lib.hid (fun _ => rfl), Lib.hid (by simp [goL]), Lib.hid (Kind.Own.nil P8.kT w2 _), Lib.hid (by intro t ht; cases ht), Lib.hid (Below.refl _ _)⟩
  go_wp2_with fail
  clear p1
  go_loopw [6, 7, 20] (fun s6 s7 s20 wr => DnRel w2 (erL ts) T kept (os.map P8.er) (.slice B2 m2 d2) s6 s7 s20 wr) (fun _ _ s20 _ => m1 - (intOf s20).toNat)
  case atStart => exact ST2.out
  case round =>
    obtain ⟨i, A9, n9, c9, A4, n4, c4, us, hi, rfl, rfl, rfl, H6, HU, HO4, HT4, HB4⟩ := hrel
    clear ST2
    rw [EL.out] at hi H6
    obtain ⟨W, rfl⟩ : ∃ W : World, W = wr := ⟨_, rfl⟩
    by_cases hin : i < m1
    · have h6 := H6.out hin
      injection h6 with h6a h6b h6c
      subst h6a; subst h6b; subst h6c
      clear H6
      have hil : i < ts.length := by have := KL.out; omega
      have hie : i < (erL ts).length := by have := EL.out; omega
      have XW : Hid (Below w.heap.size w W) := Lib.hid (X2.out.trans (HB4.out.mono X2.out.size))
      obtain ⟨b, o, rfl, hb, y0', y1', y2', y3', y4', y5'⟩ := cell_of_w KH.out hil
      have hTi : i < T.length := by have := TL.out; omega
      obtain ⟨bt, ot, rfl, hbt, ct'⟩ := cell_int T2.out hTi
      have hTr := TR.out _ (List.getElem_mem hTi)
      have LAST : Hid (ts[i].kind = 4 → i + 1 = m1) := Lib.hid (fun h => by
        have := LP.out.last i hie (by rw [erL_at hil hie, er_parts]; exact h)
        rw [EL.out] at this
        exact this)
      have HU2 : Hid (goL ((erL ts).take (i + 1)) T kept (os.map P8.er) = us.map P8.er ++ pieceW (er ts[i]) T[i] kept (os.map P8.er)) := Lib.hid (by rw [goL_snoc hie, HU.out, List.getElem?_eq_getElem hTi, erL_at hil hie]; rfl)
      rw [er_parts] at HU2
      have HUL : Hid (us.length ≤ 100000000) := Lib.hid (by
        have h1 := congrArg List.length HU.out
        have h2 := goL_len ((erL ts).take i) T kept (os.map P8.er)
        rw [List.length_map] at h1
        rw [List.length_take] at h2
        have h3 : min i (erL ts).length * (1 + kept.length) ≤ 150 * 30001 := Nat.mul_le_mul (by omega) (by have := KLn.out; omega)
        omega)
      have hsW := XW.out.size
      have hs4 := HB4.out.size
      have y0 := (XW.out.cell hb).trans y0'
      have y1 := (XW.out.cell hb).trans y1'
      have y2 := (XW.out.cell hb).trans y2'
      have y3 := (XW.out.cell hb).trans y3'
      have y4 := (XW.out.cell hb).trans y4'
      have y5 := (XW.out.cell hb).trans y5'
      have hwk := wtL_kids (List.getElem_mem hil)
      have hwm := wtL_mem (l := erL ts) (t := er ts[i]) (by rw [erL_map]; exact List.mem_map_of_mem (List.getElem_mem hil))
      rw [er_parts, wtW] at hwm
      have HWM : Hid (ts[i].attrs.length ≤ 1000 ∧ wtL (erL ts[i].kids) ≤ 150) := Lib.hid (by have := KW.out; omega)
      have HTS : Hid (∀ wz, Below W.heap.size W wz → WOk kW wz wz.heap.size ts[i]) := Lib.hid (fun wz h => ((KS.out _ (List.getElem_mem hil)).on XW.out).on h)
      have HIK := Lib.hid (HI.out _ (List.getElem_mem hil))
      have hem : er ts[i] ∈ erL ts := by rw [erL_map]; exact List.mem_map_of_mem (List.getElem_mem hil)
      have HKF : Hid ((∀ t ∈ erL ts[i].kids, WfW t) ∧ P20.LastP (erL ts[i].kids)) := Lib.hid (by
        have h1 := wf_kidsP (KF.out _ hem)
        have h2 := LP.out.sub _ hem
        have h3 := h2.last
        have h4 := h2.sub
        rw [er_parts] at h1 h3 h4
        exact ⟨h1, h3, h4⟩)
      have CT : Hid (∀ wz, But (fun b => (Value.slice A4 n4 c4).ownBlock = some b) W wz → wz.cell? ⟨bt, ot + i, none⟩ = some (.int .i64 T[i]) ∧ wz.cell? ⟨pr, 0, none⟩ = some (.slice (some ⟨bt, ot, none⟩) m1 d1)) := Lib.hid (fun wz h => by
        have f1 : (Value.slice A4 n4 c4).ownBlock ≠ some bt := fun e => by have := (HO4.out.lt e).1; omega
        have f2 : (Value.slice A4 n4 c4).ownBlock ≠ some pr := fun e => by have := (HO4.out.lt e).1; omega
        exact ⟨(World.cell?_of_block ((h.block bt (by omega) f1).trans (HB4.out.block bt hbt))).trans ct', (World.cell?_of_block ((h.block pr (by omega) f2).trans (HB4.out.block pr hp2))).trans (cell_of_row w2 pr 0 _ _ (0, 0) XR.out)⟩)
      clear y0' y1' y2' y3' y4' y5' ct' hwk hwm hie hem
      generalize ts[i] = d at y0 y1 y2 y3 y4 y5 HU2 HTS HIK HWM HKF LAST
      generalize T[i] = av at CT hTr HU2
      have XQ : Hid (P14.WB (W.alloc (.cells #[.int .i64 d.kind, .string d.tag, .string d.key, .string d.txt, .slice d.sa.A d.sa.n d.sa.c, .slice d.sk.A d.sk.n d.sk.c] 41)) W.heap.size d) := Lib.hid (P14.WB.new W d)
      have B1 : Hid (Below W.heap.size W (W.alloc (.cells #[.int .i64 d.kind, .string d.tag, .string d.key, .string d.txt, .slice d.sa.A d.sa.n d.sa.c, .slice d.sk.A d.sk.n d.sk.c] 41))) := Lib.hid ((Below.refl _ _).alloc (Nat.le_refl _) _)
      go_upto_region 7 with fail
      generalize W.alloc (.cells #[.int .i64 d.kind, .string d.tag, .string d.key, .string d.txt, .slice d.sa.A d.sa.n d.sa.c, .slice d.sk.A d.sk.n d.sk.c] 41) = W1 at XQ B1 ⊢
      clear y0 y1 y2 y3 y4 y5 hil hTi
      have hs1 := B1.out.size
      have HO1 := Lib.hid (HO4.out.below B1.out (Nat.le_refl _))
      have HT1 : Hid (∀ t ∈ us, TQ W1 (fun b => w2.heap.size ≤ b ∧ (Value.slice A4 n4 c4).ownBlock ≠ some b) t) := Lib.hid (fun t ht => (HT4.out t ht).later B1.out)
      have HB1 : Hid (Below w2.heap.size w2 W1) := Lib.hid (HB4.out.trans (B1.out.mono HB4.out.size))
      have CT1 : Hid (∀ wz, But (fun b => (Value.slice A4 n4 c4).ownBlock = some b) W1 wz → wz.cell? ⟨bt, ot + i, none⟩ = some (.int .i64 av) ∧ wz.cell? ⟨pr, 0, none⟩ = some (.slice (some ⟨bt, ot, none⟩) m1 d1)) := Lib.hid (fun wz h => CT.out wz ((But.of_below B1.out _).trans h (fun _ _ h => h)))
      have hOB : ∀ g, (Value.slice A4 n4 c4).ownBlock = some g → w2.heap.size ≤ g ∧ g < W.heap.size := fun g hg => HO4.out.lt hg
      have HOB := Lib.hid hOB
      have p0 := XQ.out.c0
      have p3 := XQ.out.c3
      have XW1 : Hid (Below w.heap.size w W1) := Lib.hid (X2.out.trans (HB1.out.mono X2.out.size))
      have AT : Hid (∀ x (hx : x < os.length), atP (os.map P8.er) x = P8.er os[x]) := Lib.hid (fun x hx => by rw [atP_at (by simpa using hx)]; simp)
      clear HO4 HT4 HB4 HU hOB CT
      obtain ⟨kind, hkind⟩ : ∃ k, d.kind = k := ⟨_, rfl⟩
      rw [hkind] at p0 HU2 LAST
      by_cases h2 : kind = 2
      · subst h2
        rw [piece_text] at HU2
        have KT : TQ W1 (fun b => w2.heap.size ≤ b ∧ (Value.slice A4 n4 c4).ownBlock ≠ some b) (P8.TV.mk ⟨#[]⟩ d.txt ⟨#[]⟩ ⟨none, 0, 0⟩ [] ⟨none, 0, 0⟩ []) := .mk rfl (Nat.le_refl _) (fun _ => rfl) (HoldsQ.nil _ _ _ _) rfl (Nat.le_refl _) (fun _ => rfl) (HoldsQ.nil _ _ _ _) (by intro k hk; cases hk)
        have NEW : Hid ((us ++ [(P8.TV.mk ⟨#[]⟩ d.txt ⟨#[]⟩ ⟨none, 0, 0⟩ [] ⟨none, 0, 0⟩ [])]).map P8.er = goL ((erL ts).take (i + 1)) T kept (os.map P8.er)) := Lib.hid (by rw [HU2.out, List.map_append]; congr 1 <;> first | rfl | (simp only [List.map_cons, List.map_nil, P8.er, P8.erL]; rfl))
        go_wp2_with (at_builtin; refine P8.kT.wp_app rfl _ _ rfl (v := .slice A4 n4 c4) (l := us) (m := [(P8.TV.mk ⟨#[]⟩ d.txt ⟨#[]⟩ ⟨none, 0, 0⟩ [] ⟨none, 0, 0⟩ [])]) (B := w2.heap.size) rfl (HO1.out.alloc _) rfl rfl (fun e => by cases e) (Kind.Holds.lit (heap_alloc_new _ _) rfl) (by have := HUL.out; omega) (by have := HB1.out.size; simp; omega) ?_; intro v' w7 hown7 hgrow hat; obtain ⟨A7, n7, c7, rfl, _, _, _, _, _⟩ := hown7.slice; have O7 := Lib.hid hown7; have GR := Lib.hid (tq_grew HO1.out HT1.out KT hgrow hat); clear hown7 hgrow hat)
        have B7 : Hid (Below w2.heap.size w2 w7) := Lib.hid (HB1.out.trans (GR.out.2.to_below (fun i _ hi => (HO1.out.lt hi).1) HB1.out.size))
        go_roundw
        case rel => exact ⟨i + 1, A9, n9, c9, A7, n7, c7, us ++ [(P8.TV.mk ⟨#[]⟩ d.txt ⟨#[]⟩ ⟨none, 0, 0⟩ [] ⟨none, 0, 0⟩ [])], by have := EL.out; omega, by go_num, rfl, rfl, Lib.hid (fun _ => rfl), NEW, O7, Lib.hid GR.out.1, B7⟩
        case measure => simp [intOf]; omega
      have k2 := int_ne h2
      by_cases h1 : kind = 1
      · subst h1
        have TK : ∃ (Bx : Option Addr) (rx cx : Nat) (t' : P8.PT), Hid (∀ wz, Below W1.heap.size W1 wz → Calls Try.prog 21 #[.slice A' n' c', .int .i64 av] wz (fun e w' => e = .returned (.slice Bx rx cx) ∧ wz = w')) ∧
            Hid (∀ wz, Below W1.heap.size W1 wz → Calls Try.prog 20 #[.agg #[.int .i64 d.kind, .string d.tag, .string d.key, .string d.txt, .slice d.sa.A d.sa.n d.sa.c, .slice d.sk.A d.sk.n d.sk.c], .slice Bx rx cx] wz (OwV wz t')) ∧
            Hid (goL ((erL ts).take (i + 1)) T kept (os.map P8.er) = us.map P8.er ++ [t']) := by
          by_cases h0 : 0 ≤ av
          · obtain ⟨x, rfl⟩ : ∃ x : Nat, av = (x : Int) := ⟨av.toNat, by omega⟩
            have hx : x < os.length := by have := OL.out; omega
            obtain ⟨bo, oo, rfl, _⟩ := P8.cell_of_trees OH.out hx
            have hmy := MY.out _ (List.getElem_mem hx)
            refine ⟨some ⟨bo, oo + x * 5, none⟩, 1, c' - x, _, Lib.hid (fun wz h => at_yes os bo oo n' c' x wz OL.out OC.out hn2 (OH.out.on (XW1.out.trans (h.mono XW1.out.size))) hx),
              Lib.hid (fun wz h => elem_take d HIK.out os[x] bo (oo + x * 5) (c' - x) wz (one_tree (OH.out.on (XW1.out.trans (h.mono XW1.out.size))) hx) ((OS.out _ (List.getElem_mem hx)).on (XW1.out.trans (h.mono XW1.out.size))) hmy.1 hmy.2 (HTS.out wz (B1.out.trans (h.mono B1.out.size))) HKF.out.1 HKF.out.2 HWM.out.2 HWM.out.1), Lib.hid ?_⟩
            rw [HU2.out, piece_take rfl h0, Int.toNat_natCast, AT.out x hx, P8.er_mk os[x]]
            rfl
          · refine ⟨none, 0, 0, _, Lib.hid (fun wz h => at_no os A' n' c' av wz (by omega)),
              Lib.hid (fun wz h => elem_new d HIK.out none 0 wz (HTS.out wz (B1.out.trans (h.mono B1.out.size))) HKF.out.1 HKF.out.2 HWM.out.2 HWM.out.1), Lib.hid ?_⟩
            rw [HU2.out, piece_new rfl h0]
        obtain ⟨Bx, rx, cx, t', AC, EC, HUX⟩ := TK
        have BXQ := XQ.out
        have p1 := XQ.out.c1
        have p2 := XQ.out.c2
        have p4 := XQ.out.c4
        have p5 := XQ.out.c5
        have SKA : Hid (∀ wz, But (fun b => (Value.slice A4 n4 c4).ownBlock = some b) W1 wz → (wz.cell? ⟨W.heap.size, 0, none⟩ = some (.int .i64 1) ∧ wz.cell? ⟨W.heap.size, 1, none⟩ = some (.string d.tag) ∧ wz.cell? ⟨W.heap.size, 2, none⟩ = some (.string d.key) ∧ wz.cell? ⟨W.heap.size, 3, none⟩ = some (.string d.txt) ∧ wz.cell? ⟨W.heap.size, 4, none⟩ = some (.slice d.sa.A d.sa.n d.sa.c) ∧ wz.cell? ⟨W.heap.size, 5, none⟩ = some (.slice d.sk.A d.sk.n d.sk.c)) ∧ wz.cell? ⟨bt, ot + i, none⟩ = some (.int .i64 av) ∧ wz.cell? ⟨pr, 0, none⟩ = some (.slice (some ⟨bt, ot, none⟩) m1 d1)) := Lib.hid (fun wz h => by
          have f1 : (Value.slice A4 n4 c4).ownBlock ≠ some W.heap.size := fun e => by have := (HOB.out _ e).2; omega
          have hh := h.block W.heap.size XQ.out.lt f1
          exact ⟨⟨(World.cell?_of_block hh).trans p0, (World.cell?_of_block hh).trans p1, (World.cell?_of_block hh).trans p2, (World.cell?_of_block hh).trans p3, (World.cell?_of_block hh).trans p4, (World.cell?_of_block hh).trans p5⟩, CT1.out wz h⟩)
        have SK := SKA.out W1 (But.refl _ _)
        have BW : Hid (Below W1.heap.size W1 W1) := Lib.hid (Below.refl _ _)
        have hul : us.length + 1 ≤ 1000000000 := by have := HUL.out; omega
        clear HIK HTS HKF HWM AT HU2 p0 p1 p2 p3 p4 p5 BXQ MY HI KS KF LP
        rw [hkind] at EC
        clear hkind
        go_upto_region 11 with fail
        go_region_held3 (fun w' => (w'.cell? ⟨W.heap.size, 0, none⟩ = some (.int .i64 1) ∧ w'.cell? ⟨W.heap.size, 1, none⟩ = some (.string d.tag) ∧ w'.cell? ⟨W.heap.size, 2, none⟩ = some (.string d.key) ∧ w'.cell? ⟨W.heap.size, 3, none⟩ = some (.string d.txt) ∧ w'.cell? ⟨W.heap.size, 4, none⟩ = some (.slice d.sa.A d.sa.n d.sa.c) ∧ w'.cell? ⟨W.heap.size, 5, none⟩ = some (.slice d.sk.A d.sk.n d.sk.c)) ∧ w'.cell? ⟨bt, ot + i, none⟩ = some (.int .i64 av) ∧ w'.cell? ⟨pr, 0, none⟩ = some (.slice (some ⟨bt, ot, none⟩) m1 d1)) (first | go_keep | exact SK) ((first
          | (go_at_call 21; refine (AC.out _ (by first | exact Below_drewN BW.out _ | exact BW.out.drew | exact BW.out)).mono ?_; rintro e w5 ⟨rfl, rfl⟩)
          | (go_at_call 20; refine (EC.out _ (by first | exact Below_drewN BW.out _ | exact BW.out.drew | exact BW.out)).mono ?_; rintro e w6 ⟨u, rfl, hu, qu, b6⟩; have bx : Below W1.heap.size W1 w6 := (by first | exact (Below_drewN BW.out _).trans b6 | exact (BW.out.drew).trans b6 | exact BW.out.trans b6); have HO6 := Lib.hid (HO1.out.below bx (Nat.le_refl _)); have HT6 : Hid (∀ t ∈ us, TQ w6 (fun b => w2.heap.size ≤ b ∧ (Value.slice A4 n4 c4).ownBlock ≠ some b) t) := Lib.hid (fun t ht => (HT1.out t ht).later bx); have QU : Hid (TQ w6 (fun b => w2.heap.size ≤ b ∧ (Value.slice A4 n4 c4).ownBlock ≠ some b) u) := Lib.hid (qu.mono (fun b _ hb => ⟨by simp at hb; omega, fun e => by have := (HOB.out _ e).2; simp at hb; omega⟩)); have HUN := Lib.hid hu; have BW := Lib.hid bx; have SK := SKA.out w6 (But.of_below bx _); have hs6 := bx.size; clear hu qu b6 bx)
          | (refine P8.kT.step_app rfl (.tmp 37) (.tmp 47) rfl (v := .slice A4 n4 c4) (l := us) (m := [u]) (B := w2.heap.size) rfl (by repeat (first | exact HO6.out | refine Kind.Own.alloc ?_ _ | refine Kind.Own.drewN ?_ _ | refine Kind.Own.drew ?_)) rfl rfl (fun e => by cases e) (Kind.Holds.lit (by first | exact heap_alloc_new _ _ | exact heap_drew (heap_top rfl) | exact heap_top rfl) rfl) hul (by simp; omega) ?_; intro v' w7 hown7 hgrow hat; obtain ⟨A7, n7, c7, rfl, _, _, _, _, _⟩ := hown7.slice; have O7 := Lib.hid hown7; have GR := Lib.hid (tq_grewB (m := [u]) HO6.out HT6.out (fun k hk => by rw [List.mem_singleton.1 hk]; exact QU.out) (by first | exact (Below.refl _ w6).alloc (Nat.le_refl _) _ | exact ((Below.refl _ w6).alloc (Nat.le_refl _) _).drew | exact ((Below.refl _ w6).drew).alloc (Nat.le_refl _) _) hgrow hat); have SK := SKA.out w7 ((But.of_below BW.out _).trans GR.out.2 (fun _ _ h => h)); clear hown7 hgrow hat)
          | fail))
        have HB6 := HB1.out.trans (BW.out.mono HB1.out.size)
        have B7 : Hid (Below w2.heap.size w2 w7) := Lib.hid (HB6.trans (GR.out.2.to_below (fun i _ hi => (HO6.out.lt hi).1) HB6.size))
        have NEW : Hid ((us ++ [u]).map P8.er = goL ((erL ts).take (i + 1)) T kept (os.map P8.er)) := Lib.hid (by rw [HUX.out, List.map_append, ← HUN.out]; rfl)
        clear SK SKA CT1 AC EC BW HB6 B1 XQ
        go_wp2_with fail
        go_roundw
        case rel => exact ⟨i + 1, A9, n9, c9, A7, n7, c7, us ++ [u], by have := EL.out; omega, by go_num, rfl, rfl, Lib.hid (fun _ => rfl), NEW, O7, Lib.hid GR.out.1, B7⟩
        case measure => simp [intOf]; omega
      have k1 := int_ne h1
      by_cases h3 : kind = 3
      · subst h3
        rw [piece_node] at HU2
        have TK : ∃ (Bx : Option Addr) (rx cx : Nat) (tk : List P8.TV), Hid (Calls Try.prog 21 #[.slice A' n' c', .int .i64 av] W1 (fun e w' => e = .returned (.slice Bx rx cx) ∧ W1 = w')) ∧
            Hid (Calls Try.prog 22 #[.slice Bx rx cx] W1 (TrV 0 W1 (tk.map P8.er))) ∧ Hid (goL ((erL ts).take (i + 1)) T kept (os.map P8.er) = us.map P8.er ++ tk.map P8.er) ∧ tk.length ≤ 1 := by
          by_cases h0 : 0 ≤ av
          · obtain ⟨x, rfl⟩ : ∃ x : Nat, av = (x : Int) := ⟨av.toNat, by omega⟩
            have hx : x < os.length := by have := OL.out; omega
            obtain ⟨bo, oo, rfl, _⟩ := P8.cell_of_trees OH.out hx
            have hmy := MY.out _ (List.getElem_mem hx)
            have hwt := may_wt _ hmy.1
            refine ⟨some ⟨bo, oo + x * 5, none⟩, 1, c' - x, [os[x]], Lib.hid (at_yes os bo oo n' c' x W1 OL.out OC.out hn2 (OH.out.on XW1.out) hx),
              Lib.hid (ownAll_any [os[x]] _ 1 _ W1 (one_tree (OH.out.on XW1.out) hx) rfl (fun t ht => by rw [List.mem_singleton.1 ht]; exact (OS.out _ (List.getElem_mem hx)).on XW1.out) (by simp only [List.map_cons, List.map_nil, wtPL]; omega)), Lib.hid ?_, by simp⟩
            rw [HU2.out, if_pos h0, Int.toNat_natCast, AT.out x hx]
            rfl
          · refine ⟨none, 0, 0, [], Lib.hid (at_no os A' n' c' av W1 (by omega)), Lib.hid (ownAll_any [] _ 0 _ W1 (Kind.Holds.nil _ _ _) rfl (fun t ht => by cases ht) (by simp [wtPL])), Lib.hid ?_, by simp⟩
            rw [HU2.out, if_neg h0]
            rfl
        obtain ⟨Bx, rx, cx, tk, AC, EC, HUX, htk⟩ := TK
        obtain ⟨r1, r2⟩ := CT1.out W1 (But.refl _ _)
        clear HIK HTS HKF HWM AT HU2 MY HI KS KF LP CT1
        go_wp2_with fail
        refine AC.out.mono ?_
        rintro e w' ⟨rfl, rfl⟩
        go_wp2_with fail
        refine EC.out.mono ?_
        rintro e w6 ⟨A5, n5, c5, us5, rfl, hus5, own5, q5, b6⟩
        have o5 := own_isU own5
        have L5 := Lib.hid o5.1
        have Z5 := Lib.hid o5.2.2.2.1
        have H5 := Lib.hid o5.2.2.2.2
        have hn5 : n5 ≤ 1 := by have h := congrArg List.length hus5; rw [List.length_map, List.length_map] at h; have := L5.out; omega
        have HO6 := Lib.hid (HO1.out.below b6 (Nat.le_refl _))
        have HT6 : Hid (∀ t ∈ us, TQ w6 (fun b => w2.heap.size ≤ b ∧ (Value.slice A4 n4 c4).ownBlock ≠ some b) t) := Lib.hid (fun t ht => (HT1.out t ht).later b6)
        have QU : Hid (∀ t ∈ us5, TQ w6 (fun b => w2.heap.size ≤ b ∧ (Value.slice A4 n4 c4).ownBlock ≠ some b) t) := Lib.hid (fun t ht => (q5 t ht).mono (fun b _ hb => ⟨by omega, fun e => by have := (HOB.out _ e).2; omega⟩))
        have HB6 : Hid (Below w2.heap.size w2 w6) := Lib.hid (HB1.out.trans (b6.mono HB1.out.size))
        have NEW : Hid ((us ++ us5).map P8.er = goL ((erL ts).take (i + 1)) T kept (os.map P8.er)) := Lib.hid (by rw [HUX.out, List.map_append, hus5])
        clear AC EC o5 own5 q5 b6 hus5 HUX r1 r2 HO1 HT1 HB1
        go_wp2_with (at_builtin; refine P8.kT.wp_app rfl _ _ rfl (v := .slice A4 n4 c4) (l := us) (m := us5) (B := w2.heap.size) rfl HO6.out rfl L5.out Z5.out H5.out (by have := HUL.out; omega) HB6.out.size ?_; intro v' w7 hown7 hgrow hat; obtain ⟨A7, n7, c7, rfl, _, _, _, _, _⟩ := hown7.slice; have O7 := Lib.hid hown7; have GR := Lib.hid (tq_grewB HO6.out HT6.out QU.out (Below.refl _ _) hgrow hat); clear hown7 hgrow hat)
        have B7 : Hid (Below w2.heap.size w2 w7) := Lib.hid (HB6.out.trans (GR.out.2.to_below (fun i _ hi => (HO6.out.lt hi).1) HB6.out.size))
        go_roundw
        case rel => exact ⟨i + 1, A9, n9, c9, A7, n7, c7, us ++ us5, by have := EL.out; omega, by go_num, rfl, rfl, Lib.hid (fun _ => rfl), NEW, O7, Lib.hid GR.out.1, B7⟩
        case measure => simp [intOf]; omega
      have k3 := int_ne h3
      by_cases h4 : kind = 4
      · subst h4
        rw [piece_all] at HU2
        have hlast := LAST.out rfl
        have ST3 : Hid (AlRel w2 (us.map P8.er) kept (os.map P8.er) n9 (.slice A4 n4 c4) (.int .i64 0) W1) := Lib.hid ⟨0, A4, n4, c4, us, by omega, rfl, rfl, Lib.hid (by simp), HO1, HT1, HB1⟩
        clear HO1 HT1 HB1 HIK HTS HKF HWM CT1 p3 hs1 HI KS KF LP XW1 XQ B1
        go_wp2_with fail
        go_loopw [7, 65] (fun s7 s65 wr => AlRel w2 (us.map P8.er) kept (os.map P8.er) n9 s7 s65 wr) (fun _ s65 _ => n9 - (intOf s65).toNat)
        case atStart => exact ST3.out
        case round =>
          obtain ⟨q, A5, n5, c5, us5, hq, rfl, rfl, HU5, HO5, HT5, HB5⟩ := hrel
          clear ST3
          by_cases hqm : q < n9
          · have hql : q < kept.length := by omega
            obtain ⟨bk, ok, rfl, hbk, ck'⟩ := cell_int K2.out hql
            have hKr := KR.out _ (List.getElem_mem hql)
            have HUQ : Hid (us.map P8.er ++ (kept.take (q + 1)).map (fun k => atP (os.map P8.er) k.toNat) = us5.map P8.er ++ [atP (os.map P8.er) kept[q].toNat]) := Lib.hid (by
              rw [HU5.out, List.take_add_one, List.getElem?_eq_getElem hql, List.map_append, ← List.append_assoc]; rfl)
            have ck := (HB5.out.cell hbk).trans ck'
            generalize kept[q] = xv at ck hKr HUQ
            obtain ⟨x, rfl⟩ : ∃ x : Nat, xv = (x : Int) := ⟨xv.toNat, by omega⟩
            have hx : x < os.length := by have := OL.out; omega
            have hW := X2.out.trans (HB5.out.mono X2.out.size)
            obtain ⟨bo, oo, rfl, hbo, z0', z1', z2', z3', z4'⟩ := P8.cell_of_trees OH.out hx
            have z0 := (hW.cell hbo).trans z0'
            have z1 := (hW.cell hbo).trans z1'
            have z2 := (hW.cell hbo).trans z2'
            have z3 := (hW.cell hbo).trans z3'
            have z4 := (hW.cell hbo).trans z4'
            have hxn : x < n' := by have := OL.out; omega
            rw [Int.toNat_natCast, AT.out x hx] at HUQ
            have hmy := MY.out _ (List.getElem_mem hx)
            have hwt := may_wt _ hmy.1
            have CO := Lib.hid (own_any os[x] wr ((OS.out _ (List.getElem_mem hx)).on hW) (by omega))
            have HUL5 : us5.length + 1 ≤ 1000000000 := by
              have h1 := congrArg List.length HU5.out
              rw [List.length_map, List.length_append, List.length_map, List.length_map, List.length_take] at h1
              have := HUL.out
              have := KLn.out
              omega
            have hs5 := HB5.out.size
            clear ck' hKr hql hW z0' z1' z2' z3' z4' hmy hwt
            generalize os[x] = ov at HUQ CO z0 z1 z2 z3 z4
            clear hx AT MY
            go_wp2_with fail
            refine CO.out.mono ?_
            rintro e w6 ⟨u, rfl, hu, qu, b6⟩
            have HO6 := Lib.hid (HO5.out.below b6 (Nat.le_refl _))
            have HT6 : Hid (∀ t ∈ us5, TQ w6 (fun b => w2.heap.size ≤ b ∧ (Value.slice A5 n5 c5).ownBlock ≠ some b) t) := Lib.hid (fun t ht => (HT5.out t ht).later b6)
            have QU : TQ w6 (fun b => w2.heap.size ≤ b ∧ (Value.slice A5 n5 c5).ownBlock ≠ some b) u := qu.mono (fun b _ hb => ⟨by omega, fun e => by have := (HO5.out.lt e).2; omega⟩)
            have HB6 : Hid (Below w2.heap.size w2 w6) := Lib.hid (HB5.out.trans (b6.mono HB5.out.size))
            have NEW : Hid ((us5 ++ [u]).map P8.er = us.map P8.er ++ (kept.take (q + 1)).map (fun k => atP (os.map P8.er) k.toNat)) := Lib.hid (by rw [HUQ.out, List.map_append, ← hu]; rfl)
            have hs6 := HB6.out.size
            clear hu qu b6 CO z0 z1 z2 z3 z4 ck HO5 HT5 HB5 HU5 HUQ
            go_wp2_with (at_builtin; refine P8.kT.wp_app rfl _ _ rfl (v := .slice A5 n5 c5) (l := us5) (m := [u]) (B := w2.heap.size) rfl (HO6.out.alloc _) rfl rfl (fun e => by cases e) (Kind.Holds.lit (heap_alloc_new _ _) rfl) HUL5 (by simp; omega) ?_; intro v' w7 hown7 hgrow hat; obtain ⟨A7, n7, c7, rfl, _, _, _, _, _⟩ := hown7.slice; have O7 := Lib.hid hown7; have GR := Lib.hid (tq_grew HO6.out HT6.out QU hgrow hat); clear hown7 hgrow hat)
            have B7 : Hid (Below w2.heap.size w2 w7) := Lib.hid (HB6.out.trans (GR.out.2.to_below (fun i _ hi => (HO6.out.lt hi).1) HB6.out.size))
            go_roundw
            case rel => exact ⟨q + 1, A7, n7, c7, us5 ++ [u], by omega, by go_num, rfl, NEW, O7, Lib.hid GR.out.1, B7⟩
            case measure => simp [intOf]; omega
          · obtain rfl : q = n9 := by omega
            have NEW : Hid (us5.map P8.er = goL ((erL ts).take (i + 1)) T kept (os.map P8.er)) := Lib.hid (by rw [HU2.out, HU5.out, List.take_of_length_le (by omega)])
            go_wp2_with fail
            go_roundw
            case rel => exact ⟨i + 1, none, 0, 0, A5, n5, c5, us5, by have := EL.out; omega, by go_num, rfl, rfl, Lib.hid (fun h => by have := EL.out; omega), NEW, HO5, HT5, HB5⟩
            case measure => simp [intOf]; omega
      have k4 := int_ne h4
      rw [piece_none h1 h2 h3 h4] at HU2
      have NEW : Hid (us.map P8.er = goL ((erL ts).take (i + 1)) T kept (os.map P8.er)) := Lib.hid (by rw [HU2.out, List.append_nil])
      go_wp2_with fail
      go_roundw
      case rel => exact ⟨i + 1, A9, n9, c9, A4, n4, c4, us, by have := EL.out; omega, by go_num, rfl, rfl, Lib.hid (fun _ => rfl), NEW, HO1, HT1, HB1⟩
      case measure => simp [intOf]; omega
    · obtain rfl : i = m1 := by omega
      have HR : Hid (us.map P8.er = goL (erL ts) T kept (os.map P8.er)) := Lib.hid (by rw [HU.out, List.take_of_length_le (by have := EL.out; omega)])
      go_wp2_with fail
      go_ret
      exact ⟨A4, n4, c4, us, rfl, HR.out.trans HD.out.symm, HO4.out.base_le X2.out.size, fun t ht => (HT4.out t ht).mono (fun b _ hb => ⟨by have := X2.out.size; omega, hb.2⟩), X2.out.trans (HB4.out.mono X2.out.size)⟩
theorem den_kids : ∀ t : WV, DenK t.kids := by
  intro t
  induction t using WV.ind with
  | h kind tag key txt sa attrs sk kids ih => exact den_of kids ih
theorem den_any (ts : List WV) : DenK ts := den_of ts (fun t _ => den_kids t)
theorem den_c : DenC := fun ts A n c os A' n' c' w hm hwf hlp hw hh hn hnc _ hok hmy hct => by
  refine (den_any ts A n c os A' n' c' w (wn_of hm) hwf hlp hw hh hn hnc hok hmy hct).mono ?_
  rintro e w' ⟨A2, n2, c2, us, rfl, hus, own, q, hb⟩
  have o := own_isU own
  exact ⟨A2, n2, c2, us, rfl, hus, o.1, o.2.1, o.2.2.1, o.2.2.2.1, o.2.2.2.2, fun t ht => (q t ht).ok, hb⟩
end Go.Proofs.Ythdgaoifbejpjaa.P17
