/- What placketref16.Trees answers. No condition but those stated. -/
import Derived.Deep.RegionHeld3
import Derived.Deep.DeepCutAuto
import Derived.Test.YthdgaoifbejpjaaM13
import Derived.Test.YthdgaoifbejpjaaM15
import Derived.Test.YthdgaoifbejpjaaM16
import Derived.Test.YthdgaoifbejpjaaM17
set_option linter.unusedVariables false
set_option linter.unusedSimpArgs false
namespace Go.Proofs.Ythdgaoifbejpjaa.P17
open Go.RowKit Kd P4 P5 P11 P12 P13 P14 P16
set_option linter.unusedSimpArgs false
set_option linter.unusedVariables false

theorem kholds {w : World} {B : Nat} {A : Option Addr} {l : List P3.At} (h : P3.Holds w B A l) : kA.Holds w B A l := by
  intro j u hj
  have hjl : j < l.length * 3 := by
    have := (List.getElem?_eq_some_iff.1 hj).1
    rw [Kind.cells_len] at this
    exact this
  have hdiv : j / 3 < l.length := by omega
  have hmod : j % 3 < 3 := Nat.mod_lt _ (by decide)
  obtain ⟨b, o, hA, hb, h0, h1, h2⟩ := h (j / 3) hdiv
  have hat := kA.cells_at l (j / 3) hdiv (j % 3) hmod
  have hs : kA.size = 3 := rfl
  rw [hs, show j / 3 * 3 + j % 3 = j by omega, hj] at hat
  refine ⟨b, o, hA, hb, ?_⟩
  rcases (by omega : j % 3 = 0 ∨ j % 3 = 1 ∨ j % 3 = 2) with e | e | e
  · rw [e] at hat
    injection hat with hat
    rw [show o + j = o + j / 3 * 3 by omega, h0]
    exact congrArg some hat.symm
  · rw [e] at hat
    injection hat with hat
    rw [show o + j = o + j / 3 * 3 + 1 by omega, h1]
    exact congrArg some hat.symm
  · rw [e] at hat
    injection hat with hat
    rw [show o + j = o + j / 3 * 3 + 2 by omega, h2]
    exact congrArg some hat.symm
/-- what a call gives of attributes, as it is read -/
theorem gives_q {w w' : World} {v : Value} {l : List P3.At} (h : P3.Own w' w.heap.size v l) : ∃ A n c, v = .slice A n c ∧ l.length = n ∧ n ≤ c ∧ (A = none → c = 0) ∧ HoldsQ kA w' (fun b => w.heap.size ≤ b) A l := by
  obtain ⟨A, n, c, hv, e1, e2, e3, e4, e5, e6⟩ := h.slice
  refine ⟨A, n, c, hv, e1, e2, e4, fun j u hj => ?_⟩
  obtain ⟨b, o, h1, h2, h3⟩ := kholds e6 j u hj
  exact ⟨b, o, h1, ⟨(e5 b o h1).1, h2⟩, h3⟩
theorem own_isU {P : Program} {α : Type} {K : Kind P α} {w : World} {D : Nat} {A : Option Addr} {n c : Nat} {l : List α} (h : K.Own w D (.slice A n c) l) : l.length = n ∧ n ≤ c ∧ c ≤ maxLen ∧ (A = none → c = 0) ∧ K.Holds w w.heap.size A l := by
  obtain ⟨A', n', c', hv, e1, e2, e3, e4, e5⟩ := h.slice
  injection hv with h1 h2 h3
  subst h1; subst h2; subst h3
  exact ⟨e1, e2, e3, e4, e5⟩
theorem own_q {P : Program} {α : Type} {K : Kind P α} {w : World} {D : Nat} {A : Option Addr} {n c : Nat} {l : List α} (h : K.Own w D (.slice A n c) l) : HoldsQ K w (fun b => D ≤ b) A l := fun j u hj => by
  obtain ⟨b, o, h1, h2, h3⟩ := (own_isU h).2.2.2.2 j u hj
  exact ⟨b, o, h1, ⟨(h.lt (g := b) (by rw [h1]; rfl)).1, h2⟩, h3⟩
/-- an old tree, in a later world, beside a slice of one's own -/
theorem old_q {w wr : World} {C D : Nat} {A : Option Addr} {n c : Nat} {us : List P8.TV} {o : P8.TV} (h : P8.TOk w C o) (hC : C ≤ w.heap.size) (hb : Below w.heap.size w wr) (hD : w.heap.size ≤ D) (own : P8.kT.Own wr D (.slice A n c) us) :
    TQ wr (fun b => (b < C ∨ D ≤ b) ∧ (Value.slice A n c).ownBlock ≠ some b) o :=
  (TQ.of (h.later hb hC) (by have := hb.size; omega)).mono (fun b _ hlt => ⟨Or.inl hlt, fun e => by have := (own.lt e).1; omega⟩)
def TrV (C : Nat) (w : World) (l : List P8.PT) (e : Ending) (w' : World) : Prop := ∃ (A : Option Addr) (n c : Nat) (us : List P8.TV), e = .returned (.slice A n c) ∧ us.map P8.er = l ∧ P8.kT.Own w' w.heap.size (.slice A n c) us ∧
  (∀ t ∈ us, TQ w' (fun b => (b < C ∨ w.heap.size ≤ b) ∧ (Value.slice A n c).ownBlock ≠ some b) t) ∧ Below w.heap.size w w'
def RTrC (ts : List WV) : Prop := ∀ (C : Nat) (os : List P8.TV) (A : Option Addr) (n c : Nat) (A' : Option Addr) (n' c' : Nat) (w : World), C ≤ w.heap.size → kQ.Holds w w.heap.size A ts → ts.length = n → (∀ t ∈ ts, WOk kQ w w.heap.size t) → wtL (erL ts) ≤ 150 →
  P8.kT.Holds w C A' os → os.length = n' → (∀ o ∈ os, P8.TOk w C o) → wtPL (os.map P8.er) ≤ 1000 → Calls Try.prog 9 #[.slice A n c, .slice A' n' c'] w (TrV C w (denP (erL ts) (os.map P8.er)))
def OlRel (w : World) (os : List P8.TV) (n : Nat) (s5 s6 : Value) (wr : World) : Prop := ∃ (k : Nat) (A' : Option Addr) (n' c' : Nat), k ≤ n ∧ s6 = .int .i64 k ∧ s5 = .slice A' n' c' ∧ Hid (kU.Own wr w.heap.size (.slice A' n' c') ((os.map fun o => (⟨o.tag, o.key⟩ : Ol)).take k)) ∧ Hid (Below w.heap.size w wr)
def TrRel (C : Nat) (w : World) (ws : List PW) (T kept : List Int) (old : List P8.PT) (s10 s11 : Value) (wr : World) : Prop := ∃ (i : Nat) (A' : Option Addr) (n' c' : Nat) (us : List P8.TV), i ≤ ws.length ∧ s11 = .int .i64 i ∧ s10 = .slice A' n' c' ∧ Hid (us.map P8.er = goL (ws.take i) T kept old) ∧
  Hid (P8.kT.Own wr w.heap.size (.slice A' n' c') us) ∧ Hid (∀ t ∈ us, TQ wr (fun b => (b < C ∨ w.heap.size ≤ b) ∧ (Value.slice A' n' c').ownBlock ≠ some b) t) ∧ Hid (Below w.heap.size w wr)
def AllRel (C : Nat) (w : World) (us0 : List P8.PT) (kept : List Int) (old : List P8.PT) (m : Nat) (s10 s14 : Value) (wr : World) : Prop := ∃ (q : Nat) (A' : Option Addr) (n' c' : Nat) (us : List P8.TV), q ≤ m ∧ s14 = .int .i64 q ∧ s10 = .slice A' n' c' ∧ Hid (us.map P8.er = us0 ++ (kept.take q).map (fun k => atP old k.toNat)) ∧
  Hid (P8.kT.Own wr w.heap.size (.slice A' n' c') us) ∧ Hid (∀ t ∈ us, TQ wr (fun b => (b < C ∨ w.heap.size ≤ b) ∧ (Value.slice A' n' c').ownBlock ≠ some b) t) ∧ Hid (Below w.heap.size w wr)
set_option maxRecDepth 100000 in
set_option maxHeartbeats 16000000 in
theorem rtr_of (ts : List WV) (IH : ∀ t ∈ ts, RTrC t.kids) : RTrC ts := by
  intro C os A n c A' n' c' w hC hh hn hok hw hh' hn' hok' hw'
  have KH := Lib.hid hh
  have KL := Lib.hid hn
  have KS := Lib.hid hok
  have KW := Lib.hid hw
  have OH := Lib.hid hh'
  have OL := Lib.hid hn'
  have OS := Lib.hid hok'
  have OW := Lib.hid hw'
  have HC := Lib.hid hC
  have HI : Hid (∀ t ∈ ts, RTrC t.kids) := Lib.hid IH
  have EL : Hid ((erL ts).length = n) := Lib.hid (by rw [erL_map]; simpa using hn)
  have hn1 : n ≤ 150 := by have := wtL_len (erL ts); have := EL.out; omega
  have hn2 : n' ≤ 1000 := by have := wtPL_len (os.map P8.er); simp at this; omega
  have HOM : Hid ((os.map P8.er).map olP = os.map fun o => (⟨o.tag, o.key⟩ : Ol)) := Lib.hid (by rw [List.map_map]; refine List.map_congr_left fun o _ => ?_; simp [olP, P8.er_mk, P8.PT.tag, P8.PT.key])
  have ST : Hid (OlRel w os n' (.slice none 0 0) (.int .i64 0) w) := Lib.hid ⟨0, none, 0, 0, by omega, rfl, rfl, Lib.hid (Kind.Own.nil kU w _), Lib.hid (Below.refl _ _)⟩
  clear hh hn hok hw hh' hn' hok' hw' hC IH
  go_enter Try.func9, Try.ntmps9
  go_wp2_with fail
  go_loopw [5, 6] (fun s5 s6 wr => OlRel w os n' s5 s6 wr) (fun _ s6 _ => n' - (intOf s6).toNat)
  case atStart => exact ST.out
  case round =>
    obtain ⟨k, A3, n3, c3, hk, rfl, rfl, HO, HB⟩ := hrel
    clear ST
    by_cases hkn : k < n'
    · have hkl : k < os.length := by have := OL.out; omega
      obtain ⟨b, o, rfl, hb, g0, g1, g2, g3, g4⟩ := P8.cell_of_trees OH.out hkl
      have hbw : b < w.heap.size := by have := HC.out; omega
      have SK0 : Hid (∀ wz, Below w.heap.size w wz → wz.cell? ⟨b, o + k * 5, none⟩ = some (.string os[k].tag) ∧ wz.cell? ⟨b, o + k * 5 + 2, none⟩ = some (.string os[k].key)) := Lib.hid (fun wz h => ⟨(h.cell hbw).trans g0, (h.cell hbw).trans g2⟩)
      have HT2 : Hid ((os.map fun o => (⟨o.tag, o.key⟩ : Ol)).take (k + 1) = (os.map fun o => (⟨o.tag, o.key⟩ : Ol)).take k ++ [⟨os[k].tag, os[k].key⟩]) := Lib.hid (by rw [List.take_add_one, List.getElem?_map, List.getElem?_eq_getElem hkl]; rfl)
      have HTL : Hid (((os.map fun o => (⟨o.tag, o.key⟩ : Ol)).take k).length ≤ 1000) := Lib.hid (by rw [List.length_take]; omega)
      clear g0 g1 g2 g3 g4
      generalize os[k].tag = tg at SK0 HT2
      generalize os[k].key = ky at SK0 HT2
      clear hkl
      have SK := SK0.out wr HB.out
      go_upto_region 5 with fail
      go_region_held3 (fun w' => w'.cell? ⟨b, o + k * 5, none⟩ = some (.string tg) ∧ w'.cell? ⟨b, o + k * 5 + 2, none⟩ = some (.string ky)) (first | go_keep | exact SK) ((first
        | (refine kU.step_app rfl (.tmp 21) (.tmp 33) rfl (v := .slice A3 n3 c3) (l := (os.map fun o => (⟨o.tag, o.key⟩ : Ol)).take k) (m := [⟨tg, ky⟩]) (B := w.heap.size) rfl (by repeat (first | exact HO.out | refine Kind.Own.alloc ?_ _ | refine Kind.Own.drewN ?_ _ | refine Kind.Own.drew ?_)) rfl rfl (fun e => by cases e) (Kind.Holds.lit (by first | exact heap_alloc_new _ _ | exact heap_drew (heap_top rfl) | exact heap_top rfl) rfl) (by have := HTL.out; omega) (by have := HB.out.size; simp; omega) ?_; intro v' w12 hown' hgrow hat; obtain ⟨A6, n6, c6, rfl, _, _, _, _, _⟩ := hown'.slice; have OW6 := Lib.hid hown'; have BZ : Hid (Below w.heap.size w w12) := Lib.hid (Below.grown (by first | exact (HB.out.alloc HB.out.size _).drew | exact HB.out.alloc HB.out.size _ | exact (HB.out.drew).alloc (by simpa using HB.out.size) _) hgrow (by have := HB.out.size; simp; omega) (fun i hi => (HO.out.lt hi).1)); have SK := SK0.out w12 BZ.out; clear hown' hgrow hat)
        | fail))
      go_wp2_with fail
      go_roundw
      case rel => exact ⟨k + 1, A6, n6, c6, by omega, by go_num, rfl, Lib.hid (by rw [HT2.out]; exact OW6.out), BZ⟩
      case measure => simp [intOf]; omega
    · obtain rfl : k = n' := by omega
      have HALL : Hid (kU.Own wr w.heap.size (.slice A3 n3 c3) ((os.map P8.er).map olP)) := Lib.hid (by have := HO.out; rw [List.take_of_length_le (by have := OL.out; simp; omega)] at this; rw [HOM.out]; exact this)
      have hU := own_isU HALL.out
      have DR : Hid (Calls Try.prog 24 #[.slice A3 n3 c3, .slice A n c] wr (Mv3 wr (foldM ((os.map P8.er).map olP) (erL ts)).take (foldM ((os.map P8.er).map olP) (erL ts)).kept (idxM (foldM ((os.map P8.er).map olP) (erL ts)).left ((os.map P8.er).map olP).length))) := Lib.hid (rof16_any _ ts A3 n3 c3 A n c wr hU.2.2.2.2 hU.1 (by have := hU.1; have := OL.out; simp at *; omega) (KH.out.on HB.out) KL.out (by omega))
      clear HO hU
      go_wp2_with fail
      refine DR.out.mono ?_
      rintro e w2 ⟨B1, m1, d1, B2, m2, d2, B3, m3, d3, rfl, o1, o2, o3, b2⟩
      have X2 := Lib.hid (HB.out.trans (b2.mono HB.out.size))
      have I1 := own_isU o1
      have I2 := own_isU o2
      have hlens := foldM_lens ((os.map P8.er).map olP) (erL ts)
      have hone := once_fold ((os.map P8.er).map olP) (erL ts)
      have TR := Lib.hid hone.take
      have KR := Lib.hid hone.kept
      have TL : Hid ((foldM ((os.map P8.er).map olP) (erL ts)).take.length = n) := Lib.hid (by rw [hlens.1, EL.out])
      have KLn : Hid ((foldM ((os.map P8.er).map olP) (erL ts)).kept.length ≤ 150000) := Lib.hid (by have h1 := hlens.2; have h2 : (erL ts).length * ((os.map P8.er).map olP).length ≤ 150 * 1000 := Nat.mul_le_mul (by have := EL.out; omega) (by have := OL.out; simp; omega); omega)
      have T1 := Lib.hid I1.2.2.2.2
      have K1 := Lib.hid I2.2.2.2.2
      have hm1 := I1.1
      have hm2 := I2.1
      have HD : Hid (denP (erL ts) (os.map P8.er) = goL (erL ts) (foldM ((os.map P8.er).map olP) (erL ts)).take (foldM ((os.map P8.er).map olP) (erL ts)).kept (os.map P8.er)) := Lib.hid rfl
      have OLN : Hid (((os.map P8.er).map olP).length = k) := Lib.hid (by have := OL.out; simpa using this)
      rw [OLN.out] at TR KR
      clear o1 o2 o3 b2 I1 I2 hlens hone DR HALL HOM
      generalize (foldM ((os.map P8.er).map olP) (erL ts)).take = T at TR TL T1 hm1 HD
      generalize (foldM ((os.map P8.er).map olP) (erL ts)).kept = kept at KR KLn K1 hm2 HD
      have hm1n : m1 = n := by have := TL.out; omega
      have hm2n : m2 ≤ 150000 := by have := KLn.out; omega
      have ST2 : Hid (TrRel C w2 (erL ts) T kept (os.map P8.er) (.slice none 0 0) (.int .i64 0) w2) := Lib.hid ⟨0, none, 0, 0, [], by omega, rfl, rfl, Lib.hid (by simp [goL]), Lib.hid (Kind.Own.nil P8.kT w2 _), Lib.hid (by intro t ht; cases ht), Lib.hid (Below.refl _ _)⟩
      go_wp2_with fail
      go_loopw [10, 11] (fun s10 s11 wr => TrRel C w2 (erL ts) T kept (os.map P8.er) s10 s11 wr) (fun _ s11 _ => n - (intOf s11).toNat)
      case atStart => exact ST2.out
      case round =>
        obtain ⟨i, A4, n4, c4, us, hi, rfl, rfl, HU, HO4, HT4, HB4⟩ := hrel
        clear ST2 HB
        rw [EL.out] at hi
        obtain ⟨W, rfl⟩ : ∃ W : World, W = wr := ⟨_, rfl⟩
        by_cases hin : i < n
        · have hil : i < ts.length := by have := KL.out; omega
          have hie : i < (erL ts).length := by have := EL.out; omega
          have XW : Hid (Below w.heap.size w W) := Lib.hid (X2.out.trans (HB4.out.mono X2.out.size))
          obtain ⟨b, o, rfl, hb, y0', y1', y2', y3', y4', y5'⟩ := cell_of_q KH.out hil
          have hTi : i < T.length := by have := TL.out; omega
          obtain ⟨bt, ot, rfl, hbt, ct'⟩ := cell_int T1.out hTi
          have hTr := TR.out _ (List.getElem_mem hTi)
          have HU2 : Hid (goL ((erL ts).take (i + 1)) T kept (os.map P8.er) = us.map P8.er ++ pieceW (er ts[i]) T[i] kept (os.map P8.er)) := Lib.hid (by rw [goL_snoc hie, HU.out, List.getElem?_eq_getElem hTi, erL_at hil hie]; rfl)
          rw [er_parts] at HU2
          have HUL : Hid (us.length + 1 ≤ 1000000000) := Lib.hid (by
            have h1 := congrArg List.length HU.out
            have h2 := goL_len ((erL ts).take i) T kept (os.map P8.er)
            rw [List.length_map] at h1
            rw [List.length_take] at h2
            have h3 : min i (erL ts).length * (1 + kept.length) ≤ 150 * 150001 := Nat.mul_le_mul (by omega) (by have := KLn.out; omega)
            omega)
          have HUL2 : Hid (us.length ≤ 100000000) := Lib.hid (by
            have h1 := congrArg List.length HU.out
            have h2 := goL_len ((erL ts).take i) T kept (os.map P8.er)
            rw [List.length_map] at h1
            rw [List.length_take] at h2
            have h3 : min i (erL ts).length * (1 + kept.length) ≤ 150 * 150001 := Nat.mul_le_mul (by omega) (by have := KLn.out; omega)
            omega)
          have hsW := XW.out.size
          have hs4 := HB4.out.size
          have y0 := (XW.out.cell hb).trans y0'
          have y1 := (XW.out.cell hb).trans y1'
          have y2 := (XW.out.cell hb).trans y2'
          have y3 := (XW.out.cell hb).trans y3'
          have y4 := (XW.out.cell hb).trans y4'
          have y5 := (XW.out.cell hb).trans y5'
          have ct := (HB4.out.cell hbt).trans ct'
          have hwk := wtL_kids (List.getElem_mem hil)
          have hwm := wtL_mem (l := erL ts) (t := er ts[i]) (by rw [erL_map]; exact List.mem_map_of_mem (List.getElem_mem hil))
          have HTS := Lib.hid ((KS.out _ (List.getElem_mem hil)).on XW.out)
          have HIK := Lib.hid (HI.out _ (List.getElem_mem hil))
          rw [er_parts, wtW] at hwm
          have HWM : Hid (ts[i].attrs.length ≤ 1000 ∧ wtL (erL ts[i].kids) ≤ 150) := Lib.hid (by have := KW.out; omega)
          clear y0' y1' y2' y3' y4' y5' ct' hwk hwm hie
          generalize ts[i] = d at y0 y1 y2 y3 y4 y5 HU2 HTS HIK HWM
          generalize T[i] = av at ct hTr HU2
          obtain ⟨kind, tg, ky, tx, sa, ats, sk, kds⟩ := d
          simp only [WV.kind, WV.tag, WV.key, WV.txt, WV.sa, WV.attrs, WV.sk, WV.kids] at y0 y1 y2 y3 y4 y5 HU2 HIK HWM
          clear hil hTi
          have XQ : Hid ((W.alloc (.cells #[.int .i64 kind, .string tg, .string ky, .string tx, .slice sa.A sa.n sa.c, .slice sk.A sk.n sk.c] 65)).heap[W.heap.size]? = some (.cells #[.int .i64 kind, .string tg, .string ky, .string tx, .slice sa.A sa.n sa.c, .slice sk.A sk.n sk.c] 65 (0, 0))) := Lib.hid (heap_alloc_new W _)
          have B1 : Hid (Below W.heap.size W (W.alloc (.cells #[.int .i64 kind, .string tg, .string ky, .string tx, .slice sa.A sa.n sa.c, .slice sk.A sk.n sk.c] 65))) := Lib.hid ((Below.refl _ _).alloc (Nat.le_refl _) _)
          go_upto_region 12 with fail
          generalize W.alloc (.cells #[.int .i64 kind, .string tg, .string ky, .string tx, .slice sa.A sa.n sa.c, .slice sk.A sk.n sk.c] 65) = W1 at XQ B1 ⊢
          clear y0 y1 y2 y3 y4 y5
          have p0 : W1.cell? ⟨W.heap.size, 0, none⟩ = some (.int .i64 kind) := cell_of_row W1 W.heap.size 0 _ _ (0, 0) XQ.out
          have p3 : W1.cell? ⟨W.heap.size, 3, none⟩ = some (.string tx) := cell_of_row W1 W.heap.size 3 _ _ (0, 0) XQ.out
          have ct1 := (B1.out.cell (show bt < W.heap.size by omega)).trans ct
          by_cases h1 : kind = 1
          · subst h1
            have p1 : W1.cell? ⟨W.heap.size, 1, none⟩ = some (.string tg) := cell_of_row W1 W.heap.size 1 _ _ (0, 0) XQ.out
            have p2 : W1.cell? ⟨W.heap.size, 2, none⟩ = some (.string ky) := cell_of_row W1 W.heap.size 2 _ _ (0, 0) XQ.out
            have XT2 : Hid ((W1.alloc (.cells #[.string tg, .string ⟨#[]⟩, .string ky, .slice none 0 0, .slice none 0 0] 37)).heap[W1.heap.size]? = some (.cells #[.string tg, .string ⟨#[]⟩, .string ky, .slice none 0 0, .slice none 0 0] 37 (0, 0))) := Lib.hid (heap_alloc_new W1 _)
            have BT : Hid (Below W1.heap.size W1 (W1.alloc (.cells #[.string tg, .string ⟨#[]⟩, .string ky, .slice none 0 0, .slice none 0 0] 37))) := Lib.hid ((Below.refl _ _).alloc (Nat.le_refl _) _)
            obtain ⟨p, hp⟩ : ∃ p, p = W1.heap.size := ⟨_, rfl⟩
            have hpW : W.heap.size < p := by have := heap_lt XQ.out; omega
            go_upto_region 15 with fail
            generalize W1.alloc (.cells #[.string tg, .string ⟨#[]⟩, .string ky, .slice none 0 0, .slice none 0 0] 37) = W2 at XT2 BT ⊢
            rw [← hp] at XT2 ⊢
            have XQ2 : Hid (W2.heap[W.heap.size]? = some (.cells #[.int .i64 1, .string tg, .string ky, .string tx, .slice sa.A sa.n sa.c, .slice sk.A sk.n sk.c] 65 (0, 0))) := Lib.hid ((BT.out.block _ (heap_lt XQ.out)).trans XQ.out)
            have B2 : Hid (Below W.heap.size W W2) := Lib.hid (B1.out.trans (BT.out.mono B1.out.size))
            have ct2 := (B2.out.cell (show bt < W.heap.size by omega)).trans ct
            have hp2 : p < W2.heap.size := heap_lt XT2.out
            clear p0 p1 p2 p3 ct1 BT XQ B1 hp
            by_cases h0 : 0 ≤ av
            · obtain ⟨x, rfl⟩ : ∃ x : Nat, av = (x : Int) := ⟨av.toNat, by omega⟩
              have hxn : x < k := by omega
              have hx : x < os.length := by have := OL.out; omega
              have hxo := OS.out _ (List.getElem_mem hx)
              rw [piece_take rfl h0, Int.toNat_natCast, atP_at (by simpa using hx)] at HU2
              obtain ⟨bo, oo, rfl, hbo, z0', z1', z2', z3', z4'⟩ := P8.cell_of_trees OH.out hx
              have hbw : bo < w.heap.size := by have := HC.out; omega
              have GO : Hid (∀ wz, Below W.heap.size W wz → wz.cell? ⟨bt, ot + i, none⟩ = some (.int .i64 (x : Int)) ∧ wz.cell? ⟨bo, oo + x * 5 + 3, none⟩ = some (.slice os[x].sa.A os[x].sa.n os[x].sa.c) ∧ wz.cell? ⟨bo, oo + x * 5 + 4, none⟩ = some (.slice os[x].sk.A os[x].sk.n os[x].sk.c)) := Lib.hid (fun wz h => by
                have hz := XW.out.trans (h.mono XW.out.size)
                exact ⟨(h.cell (show bt < W.heap.size by omega)).trans ct, (hz.cell hbw).trans z3', (hz.cell hbw).trans z4'⟩)
              have hwx := wtPL_at (l := os.map P8.er) (k := x) (by simpa using hx)
              have HWX : Hid (os[x].attrs.length ≤ 1000 ∧ wtPL (os[x].kids.map P8.er) ≤ 1000) := Lib.hid (by
                have h1 := wt_parts ((os.map P8.er)[x]'(by simpa using hx))
                rw [List.getElem_map] at h1 hwx
                rw [P8.er_kids, P8.er_mk] at h1
                have := OW.out
                simp only [P8.PT.attrs] at h1
                rw [P8.er_mk] at hwx
                omega)
              have HXO : Hid (∀ wz, Below W.heap.size W wz → P8.TOk wz C os[x] ∧ C ≤ wz.heap.size) := Lib.hid (fun wz h => by
                have hz := XW.out.trans (h.mono XW.out.size)
                exact ⟨hxo.later (D := w.heap.size) hz HC.out, by have := hz.size; have := HC.out; omega⟩)
              simp only [List.getElem_map] at HU2
              rw [P8.er_mk] at HU2
              simp only [P8.PT.attrs, P8.PT.kids] at HU2
              clear z0' z1' z2' z3' z4' hwx hxo
              generalize os[x] = ov at GO HWX HXO HU2
              obtain ⟨ot1, ot2, ot3, osa, oats, osk, okds⟩ := ov
              simp only [P8.TV.sa, P8.TV.sk, P8.TV.attrs, P8.TV.kids] at GO HWX HU2
              have JC : Hid (∀ w9, Below W.heap.size W w9 → Calls Try.prog 25 #[.slice osa.A osa.n osa.c, .slice sa.A sa.n sa.c] w9 (P3.GivesA w9 (P3.joinA oats ats))) := Lib.hid (fun w9 h => by
                obtain ⟨ho, hc⟩ := HXO.out w9 h
                have ht := HTS.out.on h
                exact P3.rjoin_any oats ats osa.A sa.A osa.n sa.n osa.c sa.c w9 ho.al ht.al (by have := HWX.out.1; have := ho.al; simp only [P8.TV.attrs, P8.TV.sa] at this; omega) (by have := HWM.out.1; have := ht.al; simp only [WV.attrs, WV.sa] at this; omega) (p3holds (ho.ah.more hc)) (p3holds ht.ah))
              have CK : Hid (∀ w9, Below W.heap.size W w9 → Calls Try.prog 9 #[.slice sk.A sk.n sk.c, .slice osk.A osk.n osk.c] w9 (TrV C w9 (denP (erL kds) (okds.map P8.er)))) := Lib.hid (fun w9 h => by
                obtain ⟨ho, hc⟩ := HXO.out w9 h
                have ht := HTS.out.on h
                exact HIK.out C okds sk.A sk.n sk.c osk.A osk.n osk.c w9 hc ht.kh ht.kl ht.ks HWM.out.2 ho.kh ho.kl ho.ks HWX.out.2)
              have q0 : decide (0 ≤ (x : Int)) = true := by simp
              obtain ⟨ct2, z3, z4⟩ := GO.out W2 B2.out
              have p4 : W2.cell? ⟨W.heap.size, 4, none⟩ = some (.slice sa.A sa.n sa.c) := cell_of_row W2 W.heap.size 4 _ _ (0, 0) XQ2.out
              have SKA : Hid (∀ wz, Below W2.heap.size W2 wz → wz.cell? ⟨bt, ot + i, none⟩ = some (.int .i64 (x : Int)) ∧ wz.cell? ⟨bo, oo + x * 5 + 3, none⟩ = some (.slice osa.A osa.n osa.c) ∧ wz.cell? ⟨W.heap.size, 4, none⟩ = some (.slice sa.A sa.n sa.c)) := Lib.hid (fun wz h => by
                have hz := B2.out.trans (h.mono B2.out.size)
                obtain ⟨a1, a2, a3⟩ := GO.out wz hz
                exact ⟨a1, a2, (h.cell (heap_lt XQ2.out)).trans p4⟩)
              have SK := SKA.out W2 (Below.refl _ _)
              have hbow : bo < W.heap.size := by omega
              go_upto_region 16 with fail
              go_region_held3 (fun w' => w'.cell? ⟨bt, ot + i, none⟩ = some (.int .i64 (x : Int)) ∧ w'.cell? ⟨bo, oo + x * 5 + 3, none⟩ = some (.slice osa.A osa.n osa.c) ∧ w'.cell? ⟨W.heap.size, 4, none⟩ = some (.slice sa.A sa.n sa.c)) (first | go_keep | exact SK | exact SKS _) ((first
                | (go_at_call 25; refine (JC.out _ (by first | exact Below_drewN B2.out _ | exact B2.out.drew | exact B2.out)).mono ?_; rintro e w5 ⟨v5, rfl, own5, b5⟩; obtain ⟨A5, n5, c5, rfl, l5, k5, z5, h5⟩ := gives_q own5; have bx : Below W2.heap.size W2 w5 := (by first | exact (Below_drewN (Below.refl _ _) _).trans b5 | exact ((Below.refl _ _).drew).trans b5 | exact b5); have AT5 : Hid (HoldsQ kA w5 (fun b => W2.heap.size ≤ b) A5 (P3.joinA oats ats)) := Lib.hid h5; have XT5 : Hid (w5.heap[p]? = some (.cells #[.string tg, .string ⟨#[]⟩, .string ky, .slice none 0 0, .slice none 0 0] 37 (0, 0))) := Lib.hid ((bx.block p (heap_lt XT2.out)).trans XT2.out); have e7 : w5.cell? ⟨p, 3, none⟩ = some (.slice none 0 0) := cell_of_row w5 p 3 _ _ (0, 0) XT5.out; have f7 : w5.frozen? ⟨p, 3, none⟩ = false := (by simp [World.frozen?, XT5.out]); have BX := Lib.hid bx; have SK := SKA.out w5 bx; have SKS : ∀ u, (w5.setCell ⟨p, 3, none⟩ u).cell? ⟨bt, ot + i, none⟩ = some (.int .i64 (x : Int)) ∧ (w5.setCell ⟨p, 3, none⟩ u).cell? ⟨bo, oo + x * 5 + 3, none⟩ = some (.slice osa.A osa.n osa.c) ∧ (w5.setCell ⟨p, 3, none⟩ u).cell? ⟨W.heap.size, 4, none⟩ = some (.slice sa.A sa.n sa.c) := (fun u => ⟨(World.cell?_setCell_far w5 _ _ u (by simp only; omega)).trans SK.1, (World.cell?_setCell_far w5 _ _ u (by simp only; omega)).trans SK.2.1, (World.cell?_setCell_far w5 _ _ u (by simp only; omega)).trans SK.2.2⟩); clear own5 h5; clear b5 bx)
                | fail))
              have XT3 : Hid ((w5.setCell ⟨p, 3, none⟩ (.slice A5 n5 c5)).heap[p]? = some (.cells #[.string tg, .string ⟨#[]⟩, .string ky, .slice A5 n5 c5, .slice none 0 0] 37 (0, 0))) := Lib.hid (heap_set XT5.out 3 _)
              have XQ3 : Hid ((w5.setCell ⟨p, 3, none⟩ (.slice A5 n5 c5)).heap[W.heap.size]? = some (.cells #[.int .i64 1, .string tg, .string ky, .string tx, .slice sa.A sa.n sa.c, .slice sk.A sk.n sk.c] 65 (0, 0))) := Lib.hid ((Below.heap_setCell _ _ _ _ (by simp only; omega)).trans ((BX.out.block W.heap.size (heap_lt XQ2.out)).trans XQ2.out))
              have BS3 : Hid (But (fun b => b = p) w5 (w5.setCell ⟨p, 3, none⟩ (.slice A5 n5 c5))) := Lib.hid (But.setCell (S := fun b => b = p) (p := ⟨p, 3, none⟩) (But.refl _ w5) (fun _ => rfl) _)
              have B3 : Hid (Below W.heap.size W (w5.setCell ⟨p, 3, none⟩ (.slice A5 n5 c5))) := Lib.hid ((B2.out.trans (BX.out.mono B2.out.size)).trans (BS3.out.to_below (fun i _ hi => by omega) (by have := B2.out.size; have := BX.out.size; omega)))
              have AQ3 : Hid (HoldsQ kA (w5.setCell ⟨p, 3, none⟩ (.slice A5 n5 c5)) (fun b => W2.heap.size ≤ b) A5 (P3.joinA oats ats)) := Lib.hid (AT5.out.but BS3.out (fun b hb e => by omega))
              obtain ⟨W3, hW3⟩ : ∃ x, x = w5.setCell ⟨p, 3, none⟩ (.slice A5 n5 c5) := ⟨_, rfl⟩
              rw [← hW3] at XT3 XQ3 B3 AQ3 ⊢
              have hp3 : p < W3.heap.size := heap_lt XT3.out
              have hW23 : W2.heap.size ≤ W3.heap.size := by rw [hW3]; have := BX.out.size; simpa [World.setCell] using this
              clear hW3 BS3 XT5 BX
              have p5 : W3.cell? ⟨W.heap.size, 5, none⟩ = some (.slice sk.A sk.n sk.c) := cell_of_row W3 W.heap.size 5 _ _ (0, 0) XQ3.out
              have SKB : Hid (∀ wz, Below W3.heap.size W3 wz → wz.cell? ⟨bt, ot + i, none⟩ = some (.int .i64 (x : Int)) ∧ wz.cell? ⟨bo, oo + x * 5 + 4, none⟩ = some (.slice osk.A osk.n osk.c) ∧ wz.cell? ⟨W.heap.size, 5, none⟩ = some (.slice sk.A sk.n sk.c)) := Lib.hid (fun wz h => by
                have hz := B3.out.trans (h.mono B3.out.size)
                obtain ⟨a1, a2, a3⟩ := GO.out wz hz
                exact ⟨a1, a3, (h.cell (heap_lt XQ3.out)).trans p5⟩)
              have SK := SKB.out W3 (Below.refl _ _)
              go_upto_region 17 with fail
              go_region_held3 (fun w' => w'.cell? ⟨bt, ot + i, none⟩ = some (.int .i64 (x : Int)) ∧ w'.cell? ⟨bo, oo + x * 5 + 4, none⟩ = some (.slice osk.A osk.n osk.c) ∧ w'.cell? ⟨W.heap.size, 5, none⟩ = some (.slice sk.A sk.n sk.c)) (first | go_keep | exact SK | exact SKS _) ((first
                | (go_at_call 9; refine (CK.out _ (by first | exact Below_drewN B3.out _ | exact B3.out.drew | exact B3.out)).mono ?_; rintro e w6 ⟨A6, n6, c6, ks6, rfl, hks, own6, q6, b6⟩; have bx : Below W3.heap.size W3 w6 := (by first | exact (Below_drewN (Below.refl _ _) _).trans b6 | exact ((Below.refl _ _).drew).trans b6 | exact b6); have OW6 : Hid (P8.kT.Own w6 W3.heap.size (.slice A6 n6 c6) ks6) := Lib.hid own6; have QW6 : Hid (∀ t ∈ ks6, TQ w6 (fun b => (b < C ∨ W3.heap.size ≤ b) ∧ (Value.slice A6 n6 c6).ownBlock ≠ some b) t) := Lib.hid q6; have HKS := Lib.hid hks; have XT6 : Hid (w6.heap[p]? = some (.cells #[.string tg, .string ⟨#[]⟩, .string ky, .slice A5 n5 c5, .slice none 0 0] 37 (0, 0))) := Lib.hid ((bx.block p (heap_lt XT3.out)).trans XT3.out); have e7 : w6.cell? ⟨p, 4, none⟩ = some (.slice none 0 0) := cell_of_row w6 p 4 _ _ (0, 0) XT6.out; have f7 : w6.frozen? ⟨p, 4, none⟩ = false := (by simp [World.frozen?, XT6.out]); have BX := Lib.hid bx; have SK := SKB.out w6 bx; have SKS : ∀ u, (w6.setCell ⟨p, 4, none⟩ u).cell? ⟨bt, ot + i, none⟩ = some (.int .i64 (x : Int)) ∧ (w6.setCell ⟨p, 4, none⟩ u).cell? ⟨bo, oo + x * 5 + 4, none⟩ = some (.slice osk.A osk.n osk.c) ∧ (w6.setCell ⟨p, 4, none⟩ u).cell? ⟨W.heap.size, 5, none⟩ = some (.slice sk.A sk.n sk.c) := (fun u => ⟨(World.cell?_setCell_far w6 _ _ u (by simp only; omega)).trans SK.1, (World.cell?_setCell_far w6 _ _ u (by simp only; omega)).trans SK.2.1, (World.cell?_setCell_far w6 _ _ u (by simp only; omega)).trans SK.2.2⟩); clear b6 bx own6 q6 hks)
                | fail))
              have XT4 : Hid ((w6.setCell ⟨p, 4, none⟩ (.slice A6 n6 c6)).heap[p]? = some (.cells #[.string tg, .string ⟨#[]⟩, .string ky, .slice A5 n5 c5, .slice A6 n6 c6] 37 (0, 0))) := Lib.hid (heap_set XT6.out 4 _)
              have BS4 : Hid (But (fun b => b = p) w6 (w6.setCell ⟨p, 4, none⟩ (.slice A6 n6 c6))) := Lib.hid (But.setCell (S := fun b => b = p) (p := ⟨p, 4, none⟩) (But.refl _ w6) (fun _ => rfl) _)
              have B4 : Hid (Below W.heap.size W (w6.setCell ⟨p, 4, none⟩ (.slice A6 n6 c6))) := Lib.hid ((B3.out.trans (BX.out.mono B3.out.size)).trans (BS4.out.to_below (fun i _ hi => by omega) (by have := B3.out.size; have := BX.out.size; omega)))
              have o6 := own_isU OW6.out
              have AQ4 : Hid (HoldsQ kA (w6.setCell ⟨p, 4, none⟩ (.slice A6 n6 c6)) (fun b => W2.heap.size ≤ b) A5 (P3.joinA oats ats)) := Lib.hid ((AQ3.out.but (But.of_below BX.out (fun _ => False)) (fun _ _ h => h)).but BS4.out (fun b hb e => by omega))
              have KQ4 : Hid (HoldsQ P8.kT (w6.setCell ⟨p, 4, none⟩ (.slice A6 n6 c6)) (fun b => W2.heap.size ≤ b) A6 ks6) := Lib.hid (((own_q OW6.out).mono (fun b _ hb => by omega)).but BS4.out (fun b hb e => by omega))
              have KS4 : Hid (∀ t ∈ ks6, TQ (w6.setCell ⟨p, 4, none⟩ (.slice A6 n6 c6)) (fun b => b < C ∨ W2.heap.size ≤ b) t) := Lib.hid (fun t ht => ((QW6.out t ht).mono (R := fun b => (b < C ∨ W2.heap.size ≤ b)) (fun b _ hb => by omega)).but BS4.out (fun b hb e => by have := HC.out; have := X2.out.size; omega))
              obtain ⟨W4, hW4⟩ : ∃ x, x = w6.setCell ⟨p, 4, none⟩ (.slice A6 n6 c6) := ⟨_, rfl⟩
              rw [← hW4] at XT4 B4 AQ4 KQ4 KS4 ⊢
              have hC2 : C ≤ w2.heap.size := by have := HC.out; have := X2.out.size; omega
              have hW2 := B2.out.size
              have KT : TQ W4 (fun b => (b < C ∨ w2.heap.size ≤ b) ∧ (Value.slice A4 n4 c4).ownBlock ≠ some b) (P8.TV.mk tg ⟨#[]⟩ ky ⟨A5, n5, c5⟩ (P3.joinA oats ats) ⟨A6, n6, c6⟩ ks6) :=
                .mk l5 k5 z5 (AQ4.out.mono (fun b _ hb => ⟨Or.inr (by omega), fun e => by have := (HO4.out.lt e).2; omega⟩)) o6.1 o6.2.1 o6.2.2.2.1 (KQ4.out.mono (fun b _ hb => ⟨Or.inr (by omega), fun e => by have := (HO4.out.lt e).2; omega⟩))
                  (fun t ht => (KS4.out t ht).mono (fun b _ hb => ⟨by omega, fun e => by have := HO4.out.lt e; omega⟩))
              have NEW : Hid ((us ++ [P8.TV.mk tg ⟨#[]⟩ ky ⟨A5, n5, c5⟩ (P3.joinA oats ats) ⟨A6, n6, c6⟩ ks6]).map P8.er = goL ((erL ts).take (i + 1)) T kept (os.map P8.er)) := Lib.hid (by
                rw [HU2.out, List.map_append, ← HKS.out]
                congr 1
                show [P8.er _] = _
                rw [P8.er_mk]
                rfl)
              have HO5 := Lib.hid (HO4.out.below B4.out (Nat.le_refl _))
              have HT5 : Hid (∀ t ∈ us, TQ W4 (fun b => (b < C ∨ w2.heap.size ≤ b) ∧ (Value.slice A4 n4 c4).ownBlock ≠ some b) t) := Lib.hid (fun t ht => (HT4.out t ht).later B4.out)
              have HB5 : Hid (Below w2.heap.size w2 W4) := Lib.hid (HB4.out.trans (B4.out.mono HB4.out.size))
              have t0 : W4.cell? ⟨p, 0, none⟩ = some (.string tg) := cell_of_row W4 p 0 _ _ (0, 0) XT4.out
              have t1 : W4.cell? ⟨p, 1, none⟩ = some (.string ⟨#[]⟩) := cell_of_row W4 p 1 _ _ (0, 0) XT4.out
              have t2 : W4.cell? ⟨p, 2, none⟩ = some (.string ky) := cell_of_row W4 p 2 _ _ (0, 0) XT4.out
              have t3 : W4.cell? ⟨p, 3, none⟩ = some (.slice A5 n5 c5) := cell_of_row W4 p 3 _ _ (0, 0) XT4.out
              have t4 : W4.cell? ⟨p, 4, none⟩ = some (.slice A6 n6 c6) := cell_of_row W4 p 4 _ _ (0, 0) XT4.out
              have hs5 := HB5.out.size
              clear HO4 HT4 HB4 hW4 BS4 XT6 OW6 QW6 HKS AQ4 KQ4 KS4 AQ3 XT3 XQ3 XQ2 B3 B2 XT2 BX CK HTS HIK HWM HI KS
              go_wp2_with (at_builtin; refine P8.kT.wp_app rfl _ _ rfl (v := .slice A4 n4 c4) (l := us) (m := [P8.TV.mk tg ⟨#[]⟩ ky ⟨A5, n5, c5⟩ (P3.joinA oats ats) ⟨A6, n6, c6⟩ ks6]) (B := w2.heap.size) rfl (HO5.out.alloc _) rfl rfl (fun e => by cases e) (Kind.Holds.lit (heap_alloc_new _ _) rfl) (by have := HUL.out; omega) (by simp; omega) ?_; intro v' w7 hown7 hgrow hat; obtain ⟨A7, n7, c7, rfl, _, _, _, _, _⟩ := hown7.slice; have O7 := Lib.hid hown7; have GR := Lib.hid (tq_grew HO5.out HT5.out KT hgrow hat); clear hown7 hgrow hat)
              have B7 : Hid (Below w2.heap.size w2 w7) := Lib.hid (HB5.out.trans (GR.out.2.to_below (fun i _ hi => (HO5.out.lt hi).1) HB5.out.size))
              go_roundw
              case rel => exact ⟨i + 1, A7, n7, c7, us ++ [P8.TV.mk tg ⟨#[]⟩ ky ⟨A5, n5, c5⟩ (P3.joinA oats ats) ⟨A6, n6, c6⟩ ks6], by have := EL.out; omega, by go_num, rfl, NEW, O7, Lib.hid GR.out.1, B7⟩
              case measure => simp [intOf]; omega
            · have q0 : decide (0 ≤ av) = false := by simpa using h0
              rw [piece_new rfl h0] at HU2
              have HCW : Hid (∀ wz, Below W.heap.size W wz → C ≤ wz.heap.size) := Lib.hid (fun wz h => by
                have hz := XW.out.trans (h.mono XW.out.size)
                have := hz.size
                have := HC.out
                omega)
              have NC : Hid (∀ w9, Below W.heap.size W w9 → Calls Try.prog 26 #[.slice sa.A sa.n sa.c] w9 (P3.GivesA w9 (P3.newA ats))) := Lib.hid (fun w9 h => by
                have ht := HTS.out.on h
                exact P3.rnew_any ats sa.A sa.n sa.c w9 ht.al (by have := HWM.out.1; have := ht.al; simp only [WV.attrs, WV.sa] at this; omega) (p3holds ht.ah))
              have CK : Hid (∀ w9, Below W.heap.size W w9 → Calls Try.prog 9 #[.slice sk.A sk.n sk.c, .slice none 0 0] w9 (TrV C w9 (denP (erL kds) []))) := Lib.hid (fun w9 h => by
                have ht := HTS.out.on h
                exact HIK.out C [] sk.A sk.n sk.c none 0 0 w9 (HCW.out w9 h) ht.kh ht.kl ht.ks HWM.out.2 (Kind.Holds.nil _ _ _) rfl (by intro o ho; cases ho) (by simp [wtPL]))
              have p4 : W2.cell? ⟨W.heap.size, 4, none⟩ = some (.slice sa.A sa.n sa.c) := cell_of_row W2 W.heap.size 4 _ _ (0, 0) XQ2.out
              go_upto_region 19 with (go_at_call 26; refine (NC.out _ (by first | exact Below_drewN B2.out _ | exact B2.out.drew | exact B2.out)).mono ?_; rintro e w5 ⟨v5, rfl, own5, b5⟩; obtain ⟨A5, n5, c5, rfl, l5, k5, z5, h5⟩ := gives_q own5; have bx : Below W2.heap.size W2 w5 := (by first | exact (Below_drewN (Below.refl _ _) _).trans b5 | exact ((Below.refl _ _).drew).trans b5 | exact b5); have AT5 : Hid (HoldsQ kA w5 (fun b => W2.heap.size ≤ b) A5 (P3.newA ats)) := Lib.hid h5; have XT5 : Hid (w5.heap[p]? = some (.cells #[.string tg, .string ⟨#[]⟩, .string ky, .slice none 0 0, .slice none 0 0] 37 (0, 0))) := Lib.hid ((bx.block p (heap_lt XT2.out)).trans XT2.out); have e7 : w5.cell? ⟨p, 3, none⟩ = some (.slice none 0 0) := cell_of_row w5 p 3 _ _ (0, 0) XT5.out; have f7 : w5.frozen? ⟨p, 3, none⟩ = false := (by simp [World.frozen?, XT5.out]); have BX := Lib.hid bx; clear own5 h5; clear b5 bx)
              have XT3 : Hid ((w5.setCell ⟨p, 3, none⟩ (.slice A5 n5 c5)).heap[p]? = some (.cells #[.string tg, .string ⟨#[]⟩, .string ky, .slice A5 n5 c5, .slice none 0 0] 37 (0, 0))) := Lib.hid (heap_set XT5.out 3 _)
              have XQ3 : Hid ((w5.setCell ⟨p, 3, none⟩ (.slice A5 n5 c5)).heap[W.heap.size]? = some (.cells #[.int .i64 1, .string tg, .string ky, .string tx, .slice sa.A sa.n sa.c, .slice sk.A sk.n sk.c] 65 (0, 0))) := Lib.hid ((Below.heap_setCell _ _ _ _ (by simp only; omega)).trans ((BX.out.block W.heap.size (heap_lt XQ2.out)).trans XQ2.out))
              have BS3 : Hid (But (fun b => b = p) w5 (w5.setCell ⟨p, 3, none⟩ (.slice A5 n5 c5))) := Lib.hid (But.setCell (S := fun b => b = p) (p := ⟨p, 3, none⟩) (But.refl _ w5) (fun _ => rfl) _)
              have B3 : Hid (Below W.heap.size W (w5.setCell ⟨p, 3, none⟩ (.slice A5 n5 c5))) := Lib.hid ((B2.out.trans (BX.out.mono B2.out.size)).trans (BS3.out.to_below (fun i _ hi => by omega) (by have := B2.out.size; have := BX.out.size; omega)))
              have AQ3 : Hid (HoldsQ kA (w5.setCell ⟨p, 3, none⟩ (.slice A5 n5 c5)) (fun b => W2.heap.size ≤ b) A5 (P3.newA ats)) := Lib.hid (AT5.out.but BS3.out (fun b hb e => by omega))
              obtain ⟨W3, hW3⟩ : ∃ x, x = w5.setCell ⟨p, 3, none⟩ (.slice A5 n5 c5) := ⟨_, rfl⟩
              rw [← hW3] at XT3 XQ3 B3 AQ3 ⊢
              have hp3 : p < W3.heap.size := heap_lt XT3.out
              have hW23 : W2.heap.size ≤ W3.heap.size := by rw [hW3]; have := BX.out.size; simpa [World.setCell] using this
              clear hW3 BS3 XT5 BX
              have p5 : W3.cell? ⟨W.heap.size, 5, none⟩ = some (.slice sk.A sk.n sk.c) := cell_of_row W3 W.heap.size 5 _ _ (0, 0) XQ3.out
              go_upto_region 20 with (go_at_call 9; refine (CK.out _ (by first | exact Below_drewN B3.out _ | exact B3.out.drew | exact B3.out)).mono ?_; rintro e w6 ⟨A6, n6, c6, ks6, rfl, hks, own6, q6, b6⟩; have bx : Below W3.heap.size W3 w6 := (by first | exact (Below_drewN (Below.refl _ _) _).trans b6 | exact ((Below.refl _ _).drew).trans b6 | exact b6); have OW6 : Hid (P8.kT.Own w6 W3.heap.size (.slice A6 n6 c6) ks6) := Lib.hid own6; have QW6 : Hid (∀ t ∈ ks6, TQ w6 (fun b => (b < C ∨ W3.heap.size ≤ b) ∧ (Value.slice A6 n6 c6).ownBlock ≠ some b) t) := Lib.hid q6; have HKS := Lib.hid hks; have XT6 : Hid (w6.heap[p]? = some (.cells #[.string tg, .string ⟨#[]⟩, .string ky, .slice A5 n5 c5, .slice none 0 0] 37 (0, 0))) := Lib.hid ((bx.block p (heap_lt XT3.out)).trans XT3.out); have e7 : w6.cell? ⟨p, 4, none⟩ = some (.slice none 0 0) := cell_of_row w6 p 4 _ _ (0, 0) XT6.out; have f7 : w6.frozen? ⟨p, 4, none⟩ = false := (by simp [World.frozen?, XT6.out]); have BX := Lib.hid bx;  clear b6 bx own6 q6 hks)
              have XT4 : Hid ((w6.setCell ⟨p, 4, none⟩ (.slice A6 n6 c6)).heap[p]? = some (.cells #[.string tg, .string ⟨#[]⟩, .string ky, .slice A5 n5 c5, .slice A6 n6 c6] 37 (0, 0))) := Lib.hid (heap_set XT6.out 4 _)
              have BS4 : Hid (But (fun b => b = p) w6 (w6.setCell ⟨p, 4, none⟩ (.slice A6 n6 c6))) := Lib.hid (But.setCell (S := fun b => b = p) (p := ⟨p, 4, none⟩) (But.refl _ w6) (fun _ => rfl) _)
              have B4 : Hid (Below W.heap.size W (w6.setCell ⟨p, 4, none⟩ (.slice A6 n6 c6))) := Lib.hid ((B3.out.trans (BX.out.mono B3.out.size)).trans (BS4.out.to_below (fun i _ hi => by omega) (by have := B3.out.size; have := BX.out.size; omega)))
              have o6 := own_isU OW6.out
              have AQ4 : Hid (HoldsQ kA (w6.setCell ⟨p, 4, none⟩ (.slice A6 n6 c6)) (fun b => W2.heap.size ≤ b) A5 (P3.newA ats)) := Lib.hid ((AQ3.out.but (But.of_below BX.out (fun _ => False)) (fun _ _ h => h)).but BS4.out (fun b hb e => by omega))
              have KQ4 : Hid (HoldsQ P8.kT (w6.setCell ⟨p, 4, none⟩ (.slice A6 n6 c6)) (fun b => W2.heap.size ≤ b) A6 ks6) := Lib.hid (((own_q OW6.out).mono (fun b _ hb => by omega)).but BS4.out (fun b hb e => by omega))
              have KS4 : Hid (∀ t ∈ ks6, TQ (w6.setCell ⟨p, 4, none⟩ (.slice A6 n6 c6)) (fun b => b < C ∨ W2.heap.size ≤ b) t) := Lib.hid (fun t ht => ((QW6.out t ht).mono (R := fun b => (b < C ∨ W2.heap.size ≤ b)) (fun b _ hb => by omega)).but BS4.out (fun b hb e => by have := HC.out; have := X2.out.size; omega))
              obtain ⟨W4, hW4⟩ : ∃ x, x = w6.setCell ⟨p, 4, none⟩ (.slice A6 n6 c6) := ⟨_, rfl⟩
              rw [← hW4] at XT4 B4 AQ4 KQ4 KS4 ⊢
              have hC2 : C ≤ w2.heap.size := by have := HC.out; have := X2.out.size; omega
              have hW2 := B2.out.size
              have KT : TQ W4 (fun b => (b < C ∨ w2.heap.size ≤ b) ∧ (Value.slice A4 n4 c4).ownBlock ≠ some b) (P8.TV.mk tg ⟨#[]⟩ ky ⟨A5, n5, c5⟩ (P3.newA ats) ⟨A6, n6, c6⟩ ks6) :=
                .mk l5 k5 z5 (AQ4.out.mono (fun b _ hb => ⟨Or.inr (by omega), fun e => by have := (HO4.out.lt e).2; omega⟩)) o6.1 o6.2.1 o6.2.2.2.1 (KQ4.out.mono (fun b _ hb => ⟨Or.inr (by omega), fun e => by have := (HO4.out.lt e).2; omega⟩))
                  (fun t ht => (KS4.out t ht).mono (fun b _ hb => ⟨by omega, fun e => by have := HO4.out.lt e; omega⟩))
              have NEW : Hid ((us ++ [P8.TV.mk tg ⟨#[]⟩ ky ⟨A5, n5, c5⟩ (P3.newA ats) ⟨A6, n6, c6⟩ ks6]).map P8.er = goL ((erL ts).take (i + 1)) T kept (os.map P8.er)) := Lib.hid (by
                rw [HU2.out, List.map_append, ← HKS.out]
                congr 1
                show [P8.er _] = _
                rw [P8.er_mk]
                rfl)
              have HO5 := Lib.hid (HO4.out.below B4.out (Nat.le_refl _))
              have HT5 : Hid (∀ t ∈ us, TQ W4 (fun b => (b < C ∨ w2.heap.size ≤ b) ∧ (Value.slice A4 n4 c4).ownBlock ≠ some b) t) := Lib.hid (fun t ht => (HT4.out t ht).later B4.out)
              have HB5 : Hid (Below w2.heap.size w2 W4) := Lib.hid (HB4.out.trans (B4.out.mono HB4.out.size))
              have t0 : W4.cell? ⟨p, 0, none⟩ = some (.string tg) := cell_of_row W4 p 0 _ _ (0, 0) XT4.out
              have t1 : W4.cell? ⟨p, 1, none⟩ = some (.string ⟨#[]⟩) := cell_of_row W4 p 1 _ _ (0, 0) XT4.out
              have t2 : W4.cell? ⟨p, 2, none⟩ = some (.string ky) := cell_of_row W4 p 2 _ _ (0, 0) XT4.out
              have t3 : W4.cell? ⟨p, 3, none⟩ = some (.slice A5 n5 c5) := cell_of_row W4 p 3 _ _ (0, 0) XT4.out
              have t4 : W4.cell? ⟨p, 4, none⟩ = some (.slice A6 n6 c6) := cell_of_row W4 p 4 _ _ (0, 0) XT4.out
              have hs5 := HB5.out.size
              clear HO4 HT4 HB4 hW4 BS4 XT6 OW6 QW6 HKS AQ4 KQ4 KS4 AQ3 XT3 XQ3 XQ2 B3 B2 XT2 BX CK HTS HIK HWM HI KS
              go_wp2_with (at_builtin; refine P8.kT.wp_app rfl _ _ rfl (v := .slice A4 n4 c4) (l := us) (m := [P8.TV.mk tg ⟨#[]⟩ ky ⟨A5, n5, c5⟩ (P3.newA ats) ⟨A6, n6, c6⟩ ks6]) (B := w2.heap.size) rfl (HO5.out.alloc _) rfl rfl (fun e => by cases e) (Kind.Holds.lit (heap_alloc_new _ _) rfl) (by have := HUL.out; omega) (by simp; omega) ?_; intro v' w7 hown7 hgrow hat; obtain ⟨A7, n7, c7, rfl, _, _, _, _, _⟩ := hown7.slice; have O7 := Lib.hid hown7; have GR := Lib.hid (tq_grew HO5.out HT5.out KT hgrow hat); clear hown7 hgrow hat)
              have B7 : Hid (Below w2.heap.size w2 w7) := Lib.hid (HB5.out.trans (GR.out.2.to_below (fun i _ hi => (HO5.out.lt hi).1) HB5.out.size))
              go_roundw
              case rel => exact ⟨i + 1, A7, n7, c7, us ++ [P8.TV.mk tg ⟨#[]⟩ ky ⟨A5, n5, c5⟩ (P3.newA ats) ⟨A6, n6, c6⟩ ks6], by have := EL.out; omega, by go_num, rfl, NEW, O7, Lib.hid GR.out.1, B7⟩
              case measure => simp [intOf]; omega
          have k1 := int_ne h1
          -- what is not an element: the world as it is behind the copy
          have HO1 := Lib.hid (HO4.out.below B1.out (Nat.le_refl _))
          have HT1 : Hid (∀ t ∈ us, TQ W1 (fun b => (b < C ∨ w2.heap.size ≤ b) ∧ (Value.slice A4 n4 c4).ownBlock ≠ some b) t) := Lib.hid (fun t ht => (HT4.out t ht).later B1.out)
          have HB1 : Hid (Below w2.heap.size w2 W1) := Lib.hid (HB4.out.trans (B1.out.mono HB4.out.size))
          have hs1 := HB1.out.size
          have OLDQ : Hid (∀ x (hx : x < os.length), TQ W1 (fun b => (b < C ∨ w2.heap.size ≤ b) ∧ (Value.slice A4 n4 c4).ownBlock ≠ some b) os[x]) := Lib.hid (fun x hx => by
            have hXW := XW.out.trans (B1.out.mono XW.out.size)
            have := TQ.of ((OS.out _ (List.getElem_mem hx)).later (D := w.heap.size) hXW HC.out) (by have := HC.out; have := hXW.size; omega)
            exact this.mono (fun b _ hb => ⟨Or.inl hb, fun e => by have := (HO4.out.lt e).1; have := HC.out; have := X2.out.size; omega⟩))
          have GO : Hid (∀ wz, Below w2.heap.size w2 wz → ∀ x (hx : x < os.length), ∃ bo oo, A' = some ⟨bo, oo, none⟩ ∧ wz.cell? ⟨bo, oo + x * 5, none⟩ = some (.string os[x].tag) ∧ wz.cell? ⟨bo, oo + x * 5 + 1, none⟩ = some (.string os[x].txt) ∧ wz.cell? ⟨bo, oo + x * 5 + 2, none⟩ = some (.string os[x].key) ∧ wz.cell? ⟨bo, oo + x * 5 + 3, none⟩ = some (.slice os[x].sa.A os[x].sa.n os[x].sa.c) ∧ wz.cell? ⟨bo, oo + x * 5 + 4, none⟩ = some (.slice os[x].sk.A os[x].sk.n os[x].sk.c)) := Lib.hid (fun wz h x hx => by
            obtain ⟨bo, oo, e, hbo, z0, z1, z2, z3, z4⟩ := P8.cell_of_trees OH.out hx
            have hz := X2.out.trans (h.mono X2.out.size)
            have hbw : bo < w.heap.size := by have := HC.out; omega
            exact ⟨bo, oo, e, (hz.cell hbw).trans z0, (hz.cell hbw).trans z1, (hz.cell hbw).trans z2, (hz.cell hbw).trans z3, (hz.cell hbw).trans z4⟩)
          have AT : Hid (∀ x (hx : x < os.length), atP (os.map P8.er) x = P8.er os[x]) := Lib.hid (fun x hx => by rw [atP_at (by simpa using hx)]; simp)
          by_cases h2 : kind = 2
          · subst h2
            rw [piece_text] at HU2
            clear HO4 HT4 HB4
            have HO4 := HO1
            have HT4 := HT1
            have HB4 := HB1
            have KT : TQ W1 (fun b => (b < C ∨ w2.heap.size ≤ b) ∧ (Value.slice A4 n4 c4).ownBlock ≠ some b) (P8.TV.mk ⟨#[]⟩ tx ⟨#[]⟩ ⟨none, 0, 0⟩ [] ⟨none, 0, 0⟩ []) := .mk rfl (Nat.le_refl _) (fun _ => rfl) (HoldsQ.nil _ _ _ _) rfl (Nat.le_refl _) (fun _ => rfl) (HoldsQ.nil _ _ _ _) (by intro k hk; cases hk)
            go_wp2_with (at_builtin; refine P8.kT.wp_app rfl _ _ rfl (v := .slice A4 n4 c4) (l := us) (m := [(P8.TV.mk ⟨#[]⟩ tx ⟨#[]⟩ ⟨none, 0, 0⟩ [] ⟨none, 0, 0⟩ [])]) (B := w2.heap.size) rfl (HO4.out.alloc _) rfl rfl (fun e => by cases e) (Kind.Holds.lit (heap_alloc_new _ _) rfl) (by have := HUL.out; omega) (by have := HB4.out.size; simp; omega) ?_; intro v' w7 hown7 hgrow hat; obtain ⟨A7, n7, c7, rfl, _, _, _, _, _⟩ := hown7.slice; have O7 := Lib.hid hown7; have GR := Lib.hid (tq_grew HO4.out HT4.out KT hgrow hat); clear hown7 hgrow hat)
            have B7 : Hid (Below w2.heap.size w2 w7) := Lib.hid (HB4.out.trans (GR.out.2.to_below (fun i _ hi => (HO4.out.lt hi).1) HB4.out.size))
            have NEW : Hid ((us ++ [(P8.TV.mk ⟨#[]⟩ tx ⟨#[]⟩ ⟨none, 0, 0⟩ [] ⟨none, 0, 0⟩ [])]).map P8.er = goL ((erL ts).take (i + 1)) T kept (os.map P8.er)) := Lib.hid (by rw [HU2.out, List.map_append]; congr 1 <;> first | rfl | (simp only [List.map_cons, List.map_nil, P8.er, P8.erL]; rfl))
            go_roundw
            case rel => exact ⟨i + 1, A7, n7, c7, us ++ [(P8.TV.mk ⟨#[]⟩ tx ⟨#[]⟩ ⟨none, 0, 0⟩ [] ⟨none, 0, 0⟩ [])], by have := EL.out; omega, by go_num, rfl, NEW, O7, Lib.hid GR.out.1, B7⟩
            case measure => simp [intOf]; omega
          have k2 := int_ne h2
          by_cases h3 : kind = 3
          · subst h3
            rw [piece_node] at HU2
            by_cases h0 : 0 ≤ av
            · rw [if_pos h0] at HU2
              obtain ⟨x, rfl⟩ : ∃ x : Nat, av = (x : Int) := ⟨av.toNat, by omega⟩
              have hxn : x < k := by omega
              have hx : x < os.length := by have := OL.out; omega
              obtain ⟨bo, oo, rfl, z0, z1, z2, z3, z4⟩ := GO.out W1 HB1.out x hx
              rw [Int.toNat_natCast, AT.out x hx] at HU2
              have KT := OLDQ.out x hx
              clear HO4 HT4 HB4 GO AT OLDQ
              have HO4 := HO1
              have HT4 := HT1
              have HB4 := HB1
              generalize os[x] = ov at HU2 KT z0 z1 z2 z3 z4
              go_wp2_with (at_builtin; refine P8.kT.wp_app rfl _ _ rfl (v := .slice A4 n4 c4) (l := us) (m := [ov]) (B := w2.heap.size) rfl (HO4.out.alloc _) rfl rfl (fun e => by cases e) (Kind.Holds.lit (heap_alloc_new _ _) rfl) (by have := HUL.out; omega) (by have := HB4.out.size; simp; omega) ?_; intro v' w7 hown7 hgrow hat; obtain ⟨A7, n7, c7, rfl, _, _, _, _, _⟩ := hown7.slice; have O7 := Lib.hid hown7; have GR := Lib.hid (tq_grew HO4.out HT4.out KT hgrow hat); clear hown7 hgrow hat)
              have B7 : Hid (Below w2.heap.size w2 w7) := Lib.hid (HB4.out.trans (GR.out.2.to_below (fun i _ hi => (HO4.out.lt hi).1) HB4.out.size))
              have NEW : Hid ((us ++ [ov]).map P8.er = goL ((erL ts).take (i + 1)) T kept (os.map P8.er)) := Lib.hid (by rw [HU2.out, List.map_append]; congr 1 <;> first | rfl | (simp only [List.map_cons, List.map_nil, P8.er, P8.erL]; rfl))
              go_roundw
              case rel => exact ⟨i + 1, A7, n7, c7, us ++ [ov], by have := EL.out; omega, by go_num, rfl, NEW, O7, Lib.hid GR.out.1, B7⟩
              case measure => simp [intOf]; omega
            · rw [if_neg h0] at HU2
              have q0 : decide (0 ≤ av) = false := by simpa using h0
              have NEW : Hid (us.map P8.er = goL ((erL ts).take (i + 1)) T kept (os.map P8.er)) := Lib.hid (by rw [HU2.out, List.append_nil])
              go_wp2_with fail
              go_roundw
              case rel => exact ⟨i + 1, A4, n4, c4, us, by have := EL.out; omega, by go_num, rfl, NEW, Lib.hid (HO4.out.below B1.out (Nat.le_refl _)), Lib.hid (fun t ht => (HT4.out t ht).later B1.out), Lib.hid (HB4.out.trans (B1.out.mono HB4.out.size))⟩
              case measure => simp [intOf]; omega
          have k3 := int_ne h3
          by_cases h4 : kind = 4
          · subst h4
            rw [piece_all] at HU2
            have ST3 : Hid (AllRel C w2 (us.map P8.er) kept (os.map P8.er) m2 (.slice A4 n4 c4) (.int .i64 0) W1) := Lib.hid ⟨0, A4, n4, c4, us, by omega, rfl, rfl, Lib.hid (by simp), HO1, HT1, HB1⟩
            clear HO4 HT4 HB4 HO1 HT1 HB1 OLDQ ct ct1 p3 hs1
            go_wp2_with fail
            go_loopw [10, 14] (fun s10 s14 wr => AllRel C w2 (us.map P8.er) kept (os.map P8.er) m2 s10 s14 wr) (fun _ s14 _ => m2 - (intOf s14).toNat)
            case atStart => exact ST3.out
            case round =>
              obtain ⟨q, A5, n5, c5, us5, hq, rfl, rfl, HU5, HO5, HT5, HB5⟩ := hrel
              clear ST3
              by_cases hqm : q < m2
              · have hql : q < kept.length := by omega
                obtain ⟨bk, ok, rfl, hbk, ck'⟩ := cell_int K1.out hql
                have hKr := KR.out _ (List.getElem_mem hql)
                have HUQ : Hid (us.map P8.er ++ (kept.take (q + 1)).map (fun k => atP (os.map P8.er) k.toNat) = us5.map P8.er ++ [atP (os.map P8.er) kept[q].toNat]) := Lib.hid (by
                  rw [HU5.out, List.take_add_one, List.getElem?_eq_getElem hql, List.map_append, ← List.append_assoc]; rfl)
                have ck := (HB5.out.cell hbk).trans ck'
                generalize kept[q] = xv at ck hKr HUQ
                obtain ⟨x, rfl⟩ : ∃ x : Nat, xv = (x : Int) := ⟨xv.toNat, by omega⟩
                have hxn : x < k := by omega
                have hx : x < os.length := by have := OL.out; omega
                have hW := X2.out.trans (HB5.out.mono X2.out.size)
                obtain ⟨bo, oo, rfl, z0, z1, z2, z3, z4⟩ := GO.out wr HB5.out x hx
                rw [Int.toNat_natCast, AT.out x hx] at HUQ
                have KT := old_q (OS.out _ (List.getElem_mem hx)) HC.out hW X2.out.size HO5.out
                have HUL5 : us5.length + 1 ≤ 1000000000 := by
                  have h1 := congrArg List.length HU5.out
                  rw [List.length_map, List.length_append, List.length_map, List.length_map, List.length_take] at h1
                  have := HUL.out
                  have := KLn.out
                  have := HUL2.out
                  omega
                have hs5 := HB5.out.size
                clear ck' hKr hql hW
                generalize os[x] = ov at HUQ KT z0 z1 z2 z3 z4
                clear hx GO AT
                go_wp2_with (at_builtin; refine P8.kT.wp_app rfl _ _ rfl (v := .slice A5 n5 c5) (l := us5) (m := [ov]) (B := w2.heap.size) rfl (HO5.out.alloc _) rfl rfl (fun e => by cases e) (Kind.Holds.lit (heap_alloc_new _ _) rfl) HUL5 (by simp; omega) ?_; intro v' w7 hown7 hgrow hat; obtain ⟨A7, n7, c7, rfl, _, _, _, _, _⟩ := hown7.slice; have O7 := Lib.hid hown7; have GR := Lib.hid (tq_grew HO5.out HT5.out KT hgrow hat); clear hown7 hgrow hat)
                have B7 : Hid (Below w2.heap.size w2 w7) := Lib.hid (HB5.out.trans (GR.out.2.to_below (fun i _ hi => (HO5.out.lt hi).1) HB5.out.size))
                have NEW : Hid ((us5 ++ [ov]).map P8.er = us.map P8.er ++ (kept.take (q + 1)).map (fun k => atP (os.map P8.er) k.toNat)) := Lib.hid (by rw [HUQ.out, List.map_append]; congr 1)
                go_roundw
                case rel => exact ⟨q + 1, A7, n7, c7, us5 ++ [ov], by omega, by go_num, rfl, NEW, O7, Lib.hid GR.out.1, B7⟩
                case measure => simp [intOf]; omega
              · obtain rfl : q = m2 := by omega
                have NEW : Hid (us5.map P8.er = goL ((erL ts).take (i + 1)) T kept (os.map P8.er)) := Lib.hid (by rw [HU2.out, HU5.out, List.take_of_length_le (by omega)])
                go_wp2_with fail
                go_roundw
                case rel => exact ⟨i + 1, A5, n5, c5, us5, by have := EL.out; omega, by go_num, rfl, NEW, HO5, HT5, HB5⟩
                case measure => simp [intOf]; omega
          have k4 := int_ne h4
          rw [piece_none h1 h2 h3 h4] at HU2
          have NEW : Hid (us.map P8.er = goL ((erL ts).take (i + 1)) T kept (os.map P8.er)) := Lib.hid (by rw [HU2.out, List.append_nil])
          go_wp2_with fail
          go_roundw
          case rel => exact ⟨i + 1, A4, n4, c4, us, by have := EL.out; omega, by go_num, rfl, NEW, Lib.hid (HO4.out.below B1.out (Nat.le_refl _)), Lib.hid (fun t ht => (HT4.out t ht).later B1.out), Lib.hid (HB4.out.trans (B1.out.mono HB4.out.size))⟩
          case measure => simp [intOf]; omega
        · obtain rfl : i = n := by omega
          have HR : Hid (us.map P8.er = goL (erL ts) T kept (os.map P8.er)) := Lib.hid (by rw [HU.out, List.take_of_length_le (by have := EL.out; omega)])
          go_wp2_with fail
          go_ret
          exact ⟨A4, n4, c4, us, rfl, HR.out.trans HD.out.symm, HO4.out.base_le X2.out.size, fun t ht => (HT4.out t ht).mono (fun b _ hb => ⟨by have := X2.out.size; omega, hb.2⟩), X2.out.trans (HB4.out.mono X2.out.size)⟩
theorem rtr_kids : ∀ t : WV, RTrC t.kids := by
  intro t
  induction t using WV.ind with
  | h kind tag key txt sa attrs sk kids ih => exact rtr_of kids ih
theorem rtrees_any (ts : List WV) : RTrC ts := rtr_of ts (fun t _ => rtr_kids t)
end Go.Proofs.Ythdgaoifbejpjaa.P17
