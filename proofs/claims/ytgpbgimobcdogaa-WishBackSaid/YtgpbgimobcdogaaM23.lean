/- What placketref11.Of answers, of a program that is what is wanted, told back. No condition but those stated. -/
import Derived.Deep.DrawnRows
import Derived.Deep.RegionHeld3
import Derived.Deep.DeepCutAuto
import Derived.Test.YtgpbgimobcdogaaM19
import Derived.Test.YtgpbgimobcdogaaM20
import Derived.Test.YtgpbgimobcdogaaM21
import Derived.Test.YtgpbgimobcdogaaM22
set_option linter.unusedVariables false
set_option linter.unusedSimpArgs false
set_option linter.unusedVariables false
set_option linter.unusedSimpArgs false
namespace Go.Proofs.Ytgpbgimobcdogaa.P14
open Go.RowKit Kd P4 P5 P11 P12 P13
attribute [local go_sem ↓] Go.wp_at_zero Go.wp_at_succ

def zB : ByteArray := ⟨#[]⟩
def litW (k : Int) (t : ByteArray) : WV := .mk k zB zB t ⟨none, 0, 0⟩ [] ⟨none, 0, 0⟩ []
theorem litW_new (w : World) (k : Int) (t : ByteArray) (Q : Nat → Prop) : WNew kQ w Q (litW k t) := WNew.mk (sk := ⟨none, 0, 0⟩) (AOk.nil_ w) (Kind.Own.nil kQ w 0) (fun b hb => by cases hb) (fun k hk => by cases hk)
theorem litW_er (k : Int) (t : ByteArray) : er (litW k t) = .mk k z0 z0 t [] [] := by rw [litW, er, erL]; rfl
theorem first_ins {l pre post : List In} {e : PW} {x : In} {r : List In} (he : l = pre ++ (backW e ++ post)) (hx : backW e = x :: r) (h : pre.length < l.length) : l[pre.length] = x := by
  have := at_pre he (i := 0) (by simpa using h) (by rw [hx]; simp)
  simp only [Nat.add_zero] at this
  rw [this]
  simp [hx]
theorem len_back {l : List PW} (h : ∀ t ∈ l, WfW t) : l.length ≤ (backL l).length := by
  have := wt_back h
  have := wtL_len l
  omega
theorem back_take {ws : List PW} {j : Nat} (h : j < ws.length) : backL (ws.take (j + 1)) = backL (ws.take j) ++ backW ws[j] := by
  rw [List.take_add_one, List.getElem?_eq_getElem h, backL_append, Option.toList_some, backL_one]
theorem back_split {ws : List PW} {j : Nat} (h : j < ws.length) : backL ws = backL (ws.take j) ++ (backW ws[j] ++ backL (ws.drop (j + 1))) := by
  conv => lhs; rw [← List.take_append_drop (j + 1) ws, backL_append, back_take h]
  rw [List.append_assoc]
def OfRel (w : World) (ws : List PW) (s3 s4 : Value) (wr : World) : Prop := ∃ (j : Nat) (A' : Option Addr) (n' c' : Nat) (us : List WV), j ≤ ws.length ∧ s4 = .int .i64 ((backL (ws.take j)).length : Nat) ∧ s3 = .slice A' n' c' ∧ Hid (erL us = ws.take j) ∧ Hid (kQ.Own wr w.heap.size (.slice A' n' c') us) ∧ Hid (∀ t ∈ us, WNew kQ wr (fun b => w.heap.size ≤ b ∧ (Value.slice A' n' c').ownBlock ≠ some b) t) ∧ Hid (Below w.heap.size w wr)
/-- the element at hand, in its block -/
def TQ (w : World) (g : Nat) (tag key : ByteArray) (A : Option Addr) (n c : Nat) (A2 : Option Addr) (n2 c2 : Nat) : Prop := w.heap[g]? = some (.cells #[.int .i64 1, .string tag, .string key, .string zB, .slice A n c, .slice A2 n2 c2] 54 (0, 0))
section
variable {w w' : World} {g : Nat} {tag key : ByteArray} {A A2 : Option Addr} {n c n2 k2 : Nat}
theorem TQ.c0 (h : TQ w g tag key A n c A2 n2 k2) : w.cell? ⟨g, 0, none⟩ = some (.int .i64 1) := cell_of_row w g 0 _ _ (0, 0) h
theorem TQ.c1 (h : TQ w g tag key A n c A2 n2 k2) : w.cell? ⟨g, 1, none⟩ = some (.string tag) := cell_of_row w g 1 _ _ (0, 0) h
theorem TQ.c2 (h : TQ w g tag key A n c A2 n2 k2) : w.cell? ⟨g, 2, none⟩ = some (.string key) := cell_of_row w g 2 _ _ (0, 0) h
theorem TQ.c3 (h : TQ w g tag key A n c A2 n2 k2) : w.cell? ⟨g, 3, none⟩ = some (.string zB) := cell_of_row w g 3 _ _ (0, 0) h
theorem TQ.c4 (h : TQ w g tag key A n c A2 n2 k2) : w.cell? ⟨g, 4, none⟩ = some (.slice A n c) := cell_of_row w g 4 _ _ (0, 0) h
theorem TQ.c5 (h : TQ w g tag key A n c A2 n2 k2) : w.cell? ⟨g, 5, none⟩ = some (.slice A2 n2 k2) := cell_of_row w g 5 _ _ (0, 0) h
theorem TQ.fr (h : TQ w g tag key A n c A2 n2 k2) (k : Nat) : w.frozen? ⟨g, k, none⟩ = false := by simp [World.frozen?, (show w.heap[g]? = _ from h)]
end
structure ASt (W wr : World) (tag key : ByteArray) (A : Option Addr) (n c : Nat) (ats : List P3.At) : Prop where
  tq : TQ wr W.heap.size tag key A n c none 0 0
  own : kA.Own wr (W.heap.size + 1) (.slice A n c) ats
  hb : Below W.heap.size W wr
theorem ASt.app {W wr w7 : World} {o : Obj} {tag key : ByteArray} {A A7 : Option Addr} {n c n7 c7 : Nat} {ats : List P3.At} {a : P3.At} (h : ASt W wr tag key A n c ats) (hg : (wr.drew.alloc o).grownBy w7 (Value.slice A n c).ownBlock) (hown : kA.Own w7 (W.heap.size + 1) (.slice A7 n7 c7) (ats ++ [a])) :
    ASt W (w7.setCell ⟨W.heap.size, 4, none⟩ (.slice A7 n7 c7)) tag key A7 n7 c7 (ats ++ [a]) := by
  have hlt := heap_lt h.tq
  have t7 : w7.heap[W.heap.size]? = some (.cells #[.int .i64 1, .string tag, .string key, .string zB, .slice A n c, .slice none 0 0] 54 (0, 0)) :=
    (hg.block _ (by simp; omega) (fun e => by have := (h.own.lt e.symm).1; omega)).trans (heap_up (w := wr.drew) h.tq)
  have b7 : Below W.heap.size W w7 := (h.hb.drew.alloc h.hb.size o).grown hg (by have := h.hb.size; simp; omega) (fun k hk => by have := (h.own.lt hk).1; omega)
  refine ⟨heap_set t7 4 _, hown.keep (fun b hb => Below.heap_setCell _ _ _ _ (fun e => by have := (hown.lt hb).1; simp at e; omega)), ?_⟩
  · have := But.setCell (S := fun b => b = W.heap.size) (p := ⟨W.heap.size, 4, none⟩) (But.refl _ w7) (fun _ => rfl) (.slice A7 n7 c7)
    exact b7.trans (this.to_below (fun i _ hi => by omega) b7.size)
theorem ASt.kids {W wr w2 : World} {tag key : ByteArray} {A Ak : Option Addr} {n c nk ck : Nat} {ats : List P3.At} (h : ASt W wr tag key A n c ats) (hb : Below wr.heap.size wr w2) :
    TQ (w2.setCell ⟨W.heap.size, 5, none⟩ (.slice Ak nk ck)) W.heap.size tag key A n c Ak nk ck ∧ kA.Own (w2.setCell ⟨W.heap.size, 5, none⟩ (.slice Ak nk ck)) (W.heap.size + 1) (.slice A n c) ats ∧ Below W.heap.size W (w2.setCell ⟨W.heap.size, 5, none⟩ (.slice Ak nk ck)) := by
  have hlt := heap_lt h.tq
  have t2 := (hb.block _ hlt).trans h.tq
  refine ⟨heap_set t2 5 _, (h.own.below hb (Nat.le_refl _)).keep (fun b hb => Below.heap_setCell _ _ _ _ (fun e => by have := (h.own.lt hb).1; simp at e; omega)), ?_⟩
  · have := But.setCell (S := fun b => b = W.heap.size) (p := ⟨W.heap.size, 5, none⟩) (But.refl _ w2) (fun _ => rfl) (.slice Ak nk ck)
    have b2 := h.hb.trans (hb.mono h.hb.size)
    exact b2.trans (this.to_below (fun i _ hi => by omega) b2.size)
/-- a row of what is wanted in another block is not disturbed by a cell of this one -/
theorem own_set5 {w2 : World} {g C : Nat} {v u : Value} {ks : List WV} (h : kQ.Own w2 C v ks) (hg : g < C) (i : Nat) : kQ.Own (w2.setCell ⟨g, i, none⟩ u) C v ks := h.keep (fun b hb => Below.heap_setCell _ _ _ _ (by rintro rfl; have := (h.lt hb).1; omega))
theorem new_set5 {w2 : World} {g : Nat} {u : Value} {t : WV} {Q : Nat → Prop} (h : WNew kQ w2 Q t) (hq : ∀ b, Q b → b ≠ g) (hg : ∃ cur, w2.heap[g]? = some (.cells cur 54 (0, 0))) (i : Nat) : WNew kQ (w2.setCell ⟨g, i, none⟩ u) Q t :=
  h.but (But.setCell (S := fun b => b = g) (p := ⟨g, i, none⟩) (But.refl _ _) (fun _ => rfl) u) hq (kind_noA (e := 54) (by decide) (fun b e => by subst e; exact hg))
def AtRel (W : World) (tag key : ByteArray) (attrs : List P3.At) (i : Nat) (s6 : Value) (wr : World) : Prop := ∃ (m : Nat) (A : Option Addr) (n c : Nat), m ≤ attrs.length ∧ s6 = .int .i64 ((i + 1 + m : Nat) : Int) ∧ Hid (ASt W wr tag key A n c (attrs.take m))
def OfC (N : Nat) : Prop := ∀ (ws : List PW) (l : List In) (A : Option Addr) (n c : Nat) (w : World), (∀ t ∈ ws, WfW t) → l = backL ws → l.length = n → n ≤ N → kX.Holds w w.heap.size A l → n ≤ c → c ≤ maxLen → n ≤ 1000 → Calls Try.prog 10 #[.slice A n c] w (Wv kQ w ws)
set_option maxRecDepth 100000 in
set_option maxHeartbeats 16000000 in
theorem rof14_of (N : Nat) (IH : ∀ M, M < N → OfC M) : OfC N := by
  intro ws l A n c w hwf hlw hn hnN hh hnc hcm hl
  have KH := Lib.hid hh
  have KL := Lib.hid hn
  have HWF := Lib.hid hwf
  have HLW := Lib.hid hlw
  have HI : Hid (∀ M, M < N → OfC M) := Lib.hid IH
  have hwl : ws.length ≤ n := by have := len_back hwf; rw [← hlw] at this; omega
  have KC := Lib.hid hcm
  have hcm' : c ≤ 9223372036854775807 := by unfold maxLen at hcm; omega
  have ST : Hid (OfRel w ws (.slice none 0 0) (.int .i64 0) w) := Lib.hid ⟨0, none, 0, 0, [], by omega, by simp [backL], rfl, Lib.hid (by simp [erL]), Lib.hid (Kind.Own.nil kQ w _), Lib.hid (by intro t ht; cases ht), Lib.hid (Below.refl _ _)⟩
  clear hh hn hwf hlw IH hcm
  go_enter Try.func10, Try.ntmps10
  go_wp2_with fail
  go_loopw [3, 4] (fun s3 s4 wr => OfRel w ws s3 s4 wr) (fun _ s4 _ => n - (intOf s4).toNat)
  case atStart => exact ST.out
  case round =>
    obtain ⟨j, A', n', c', us, hj, rfl, rfl, HU, HO, HT, HB⟩ := hrel
    clear ST
    obtain ⟨W, rfl⟩ : ∃ W : World, W = wr := ⟨_, rfl⟩
    by_cases hjw : j < ws.length
    · have hWf := HWF.out _ (List.getElem_mem hjw)
      have SPL : Hid (l = backL (ws.take j) ++ (backW ws[j] ++ backL (ws.drop (j + 1)))) := Lib.hid (by rw [HLW.out]; exact back_split hjw)
      have NXT : Hid (backL (ws.take (j + 1)) = backL (ws.take j) ++ backW ws[j]) := Lib.hid (back_take hjw)
      have HTK : Hid (ws.take (j + 1) = ws.take j ++ [ws[j]]) := Lib.hid (by rw [List.take_add_one, List.getElem?_eq_getElem hjw]; rfl)
      have PST : Hid (HeadT (backL (ws.drop (j + 1)))) := Lib.hid (by
        have := backL_head (l := ws.drop (j + 1)) (r := []) (fun t ht => HWF.out t (List.mem_of_mem_drop ht)) HeadT.nil
        rwa [List.append_nil] at this)
      have hul : us.length ≤ 1000 := by
        have h1 := congrArg List.length HU.out
        rw [erL_map, List.length_map, List.length_take] at h1
        omega
      have HUL := Lib.hid hul
      generalize ws[j] = e at hWf SPL NXT HTK
      generalize backL (ws.drop (j + 1)) = post at SPL PST
      obtain ⟨i, hi⟩ : ∃ i, (backL (ws.take j)).length = i := ⟨_, rfl⟩
      have HI0 := Lib.hid hi
      rw [hi]
      have hLEN := congrArg List.length SPL.out
      rw [List.length_append, List.length_append, KL.out, hi] at hLEN
      have hpos := backW_pos hWf
      have hin : i < n := by omega
      have hil : i < l.length := by have := KL.out; omega
      have FST : Hid (∀ x r, backW e = x :: r → l[i] = x) := Lib.hid (fun x r hx => by
        have := first_ins SPL.out hx (by rw [hi]; exact hil)
        simpa only [hi] using this)
      obtain ⟨b, o, rfl, hb, g0', g1', g2'⟩ := cell_of_ins KH.out hil
      have G : Hid (∀ wz, Below w.heap.size w wz → wz.cell? ⟨b, o + i * 3, none⟩ = some (.int .i64 l[i].op) ∧ wz.cell? ⟨b, o + i * 3 + 1, none⟩ = some (.string l[i].a) ∧ wz.cell? ⟨b, o + i * 3 + 2, none⟩ = some (.string l[i].b)) := Lib.hid (fun wz h => ⟨(h.cell hb).trans g0', (h.cell hb).trans g1', (h.cell hb).trans g2'⟩)
      have LEN := Lib.hid hLEN
      have hsz := HB.out.size
      clear hLEN hpos g0' g1' g2' hi hul
      cases hWf with
      | tx hm =>
        rename_i t0
        have e0 := FST.out _ _ (show backW (.mk 2 z0 z0 t0 [] []) = [⟨4, t0, z0⟩] by rw [backW, if_neg (by decide), if_pos rfl])
        rw [e0] at G
        clear e0
        have g0 := (G.out W HB.out).1; have g1 := (G.out W HB.out).2.1
        simp only at g0 g1
        have NL : Hid ((backL (ws.take (j + 1))).length = i + 1) := Lib.hid (by rw [NXT.out, List.length_append, HI0.out, show backW (.mk 2 z0 z0 t0 [] []) = [⟨4, t0, z0⟩] by rw [backW, if_neg (by decide), if_pos rfl]]; rfl)
        go_wp2_with (at_builtin; refine kQ.wp_app rfl _ _ rfl (v := .slice A' n' c') (l := us) (m := [litW 2 t0]) (B := w.heap.size) rfl (HO.out.alloc _) rfl rfl (fun e => by cases e) (Kind.Holds.lit (heap_alloc_new _ _) rfl) (by have := HUL.out; simp; omega) (by simp; omega) ?_; intro v' w4 hown' hgrow hat)
        obtain ⟨A4, n4, c4, rfl, e1, e2, e3, e4, e5⟩ := hown'.slice
        have LG := wants_grew (K := kQ) (by decide) HO.out HT.out (litW_new W 2 t0 _) hgrow hat
        have B4 : Hid (Below w.heap.size w w4) := Lib.hid (HB.out.trans (LG.2.to_below (fun i _ hi => (HO.out.lt hi).1) hsz))
        have REL : Hid (OfRel w ws (.slice A4 n4 c4) (.int .i64 ((i + 1 : Nat) : Int)) w4) := Lib.hid ⟨j + 1, A4, n4, c4, _, by omega, by rw [NL.out], rfl, Lib.hid (by rw [erL_append, HU.out, HTK.out]; congr 1), Lib.hid hown', Lib.hid LG.1, B4⟩
        clear LG hown' hgrow hat e1 e2 e3 e4 e5 g0 g1
        go_wp2_with fail
        go_roundw
        case rel => exact REL.out
        case measure => simp [intOf]; omega
      | nd =>
        have e0 := FST.out _ _ (show backW (.mk 3 z0 z0 z0 [] []) = [⟨8, z0, z0⟩] by rw [backW, if_neg (by decide), if_neg (by decide), if_pos rfl])
        rw [e0] at G
        clear e0
        have g0 := (G.out W HB.out).1; have g1 := (G.out W HB.out).2.1
        simp only at g0 g1
        have NL : Hid ((backL (ws.take (j + 1))).length = i + 1) := Lib.hid (by rw [NXT.out, List.length_append, HI0.out, show backW (.mk 3 z0 z0 z0 [] []) = [⟨8, z0, z0⟩] by rw [backW, if_neg (by decide), if_neg (by decide), if_pos rfl]]; rfl)
        go_wp2_with (at_builtin; refine kQ.wp_app rfl _ _ rfl (v := .slice A' n' c') (l := us) (m := [litW 3 zB]) (B := w.heap.size) rfl (HO.out.alloc _) rfl rfl (fun e => by cases e) (Kind.Holds.lit (heap_alloc_new _ _) rfl) (by have := HUL.out; simp; omega) (by simp; omega) ?_; intro v' w4 hown' hgrow hat)
        obtain ⟨A4, n4, c4, rfl, e1, e2, e3, e4, e5⟩ := hown'.slice
        have LG := wants_grew (K := kQ) (by decide) HO.out HT.out (litW_new W 3 zB _) hgrow hat
        have B4 : Hid (Below w.heap.size w w4) := Lib.hid (HB.out.trans (LG.2.to_below (fun i _ hi => (HO.out.lt hi).1) hsz))
        have REL : Hid (OfRel w ws (.slice A4 n4 c4) (.int .i64 ((i + 1 : Nat) : Int)) w4) := Lib.hid ⟨j + 1, A4, n4, c4, _, by omega, by rw [NL.out], rfl, Lib.hid (by rw [erL_append, HU.out, HTK.out]; congr 1), Lib.hid hown', Lib.hid LG.1, B4⟩
        clear LG hown' hgrow hat e1 e2 e3 e4 e5 g0 g1
        go_wp2_with fail
        go_roundw
        case rel => exact REL.out
        case measure => simp [intOf]; omega
      | al =>
        have e0 := FST.out _ _ (show backW (.mk 4 z0 z0 z0 [] []) = [⟨7, z0, z0⟩] by rw [backW, if_neg (by decide), if_neg (by decide), if_neg (by decide), if_pos rfl])
        rw [e0] at G
        clear e0
        have g0 := (G.out W HB.out).1; have g1 := (G.out W HB.out).2.1
        simp only at g0 g1
        have NL : Hid ((backL (ws.take (j + 1))).length = i + 1) := Lib.hid (by rw [NXT.out, List.length_append, HI0.out, show backW (.mk 4 z0 z0 z0 [] []) = [⟨7, z0, z0⟩] by rw [backW, if_neg (by decide), if_neg (by decide), if_neg (by decide), if_pos rfl]]; rfl)
        go_wp2_with (at_builtin; refine kQ.wp_app rfl _ _ rfl (v := .slice A' n' c') (l := us) (m := [litW 4 zB]) (B := w.heap.size) rfl (HO.out.alloc _) rfl rfl (fun e => by cases e) (Kind.Holds.lit (heap_alloc_new _ _) rfl) (by have := HUL.out; simp; omega) (by simp; omega) ?_; intro v' w4 hown' hgrow hat)
        obtain ⟨A4, n4, c4, rfl, e1, e2, e3, e4, e5⟩ := hown'.slice
        have LG := wants_grew (K := kQ) (by decide) HO.out HT.out (litW_new W 4 zB _) hgrow hat
        have B4 : Hid (Below w.heap.size w w4) := Lib.hid (HB.out.trans (LG.2.to_below (fun i _ hi => (HO.out.lt hi).1) hsz))
        have REL : Hid (OfRel w ws (.slice A4 n4 c4) (.int .i64 ((i + 1 : Nat) : Int)) w4) := Lib.hid ⟨j + 1, A4, n4, c4, _, by omega, by rw [NL.out], rfl, Lib.hid (by rw [erL_append, HU.out, HTK.out]; congr 1), Lib.hid hown', Lib.hid LG.1, B4⟩
        clear LG hown' hgrow hat e1 e2 e3 e4 e5 g0 g1
        go_wp2_with fail
        go_roundw
        case rel => exact REL.out
        case measure => simp [intOf]; omega
      | vo hm ha =>
        rename_i tag key attrs
        have hmay := hm
        have hbk := back_void (key := key) (txt := z0) (attrs := attrs) (kids := []) (may_void hm)
        have e0 := FST.out _ _ hbk
        rw [e0] at G
        clear e0
        obtain ⟨g0, g1, g2⟩ := G.out W HB.out
        (try simp only at g0 g1 g2)
        have ATL : Hid (attrs.length + 1 ≤ (backW (PW.mk 1 tag key z0 attrs [])).length) := Lib.hid (by rw [hbk]; simp only [List.length_cons, List.length_append, List.length_map, List.length_nil]; omega)
        have hal : i + attrs.length < n := by have := ATL.out; have := LEN.out; omega
        -- the instructions behind it
        have ATX : Hid (∀ m (h : m < attrs.length), ∀ (h2 : i + 1 + m < l.length), l[i + 1 + m] = atI attrs[m]) := Lib.hid (fun m h h2 => by
          have h3 : m + 1 < (backW (PW.mk 1 tag key z0 attrs []) ++ post).length := by rw [List.length_append, hbk]; simp only [List.length_cons, List.length_append, List.length_map]; omega
          have h4 := at_pre SPL.out (i := m + 1) (by rw [HI0.out]; omega) h3
          have h5 : l[i + 1 + m] = l[(backL (ws.take j)).length + (m + 1)]'(by rw [HI0.out]; omega) := by congr 1; rw [HI0.out]; omega
          rw [h5, h4]
          simp only [hbk, List.cons_append, List.getElem_cons_succ]
          rw [List.getElem_append_left (by rw [List.length_map]; exact h)]
          rw [List.getElem_map])
        have NAT : Hid (∀ (h : i + 1 + attrs.length < l.length), tellsO l[i + 1 + attrs.length].op = false) := Lib.hid (fun h => by
          have h6 : l = (backL (ws.take j) ++ (⟨3, tag, key⟩ :: attrs.map atI)) ++ (post) := by rw [SPL.out, hbk]; simp only [List.append_assoc, List.cons_append, List.nil_append]
          have h7 : (backL (ws.take j) ++ (⟨3, tag, key⟩ :: attrs.map atI)).length = i + 1 + attrs.length := by simp only [List.length_append, List.length_cons, List.length_map, HI0.out]; omega
          have h8 : 0 < (post).length := by
            have := congrArg List.length h6
            rw [List.length_append, h7] at this
            omega
          have h9 := at_pre h6 (i := 0) (by rw [h7]; simpa using h) h8
          have h10 : l[i + 1 + attrs.length] = l[(backL (ws.take j) ++ (⟨3, tag, key⟩ :: attrs.map atI)).length + 0]'(by rw [h7]; simpa using h) := by congr 1; rw [h7]; rfl
          rw [h10, h9]
          have hh : HeadT (post) := PST.out
          exact hh _ (by rw [List.head?_eq_getElem?, List.getElem?_eq_getElem h8]))
        go_upto_region 14 with fail
        go_cut [5] (fun s5 wx => s5 = .pointer (some ⟨W.heap.size, 0, none⟩) ∧ Hid (Below W.heap.size W wx) ∧ Hid (TQ wx W.heap.size tag key none 0 0 none 0 0))
        case first =>
          go_region_held3 (fun w' => w'.cell? ⟨b, o + i * 3 + 1, none⟩ = some (.string tag) ∧ w'.cell? ⟨b, o + i * 3 + 2, none⟩ = some (.string key)) (go_keep) (fail)
          all_goals
            go_wp2_with fail
            go_meet
            exact ⟨rfl, Lib.hid (((Below.refl _ _).alloc (Nat.le_refl _) _).drew), Lib.hid (P5.heap_drew (heap_alloc_new W _))⟩
        case rest =>
        obtain ⟨rfl, b2, t2⟩ := hcut
        obtain ⟨w2, rfl⟩ : ∃ w2, w2 = wc := ⟨_, rfl⟩
        have AS : Hid (ASt W w2 tag key none 0 0 []) := Lib.hid ⟨t2.out, Kind.Own.nil kA w2 _, b2.out⟩
        have ST2 : Hid (AtRel W tag key attrs i (.int .i64 ((i : Int) + 1)) w2) := Lib.hid ⟨0, none, 0, 0, by omega, by go_num, AS⟩
        clear b2 t2 AS g0 g1 g2
        go_wp2_with fail
        go_loopw [6] (fun s6 wr => AtRel W tag key attrs i s6 wr) (fun s6 _ => n - (intOf s6).toNat)
        case atStart => exact ST2.out
        case round =>
          obtain ⟨m, A, n0, c0, hm, rfl, HA⟩ := hrel
          clear ST2
          obtain ⟨k, hk⟩ : ∃ k, i + 1 + m = k := ⟨_, rfl⟩
          have KM := Lib.hid hk
          rw [hk]
          have GK0 : Hid (∀ (h : k < l.length), ∀ wz, Below w.heap.size w wz → wz.cell? ⟨b, o + k * 3, none⟩ = some (.int .i64 l[k].op) ∧ wz.cell? ⟨b, o + k * 3 + 1, none⟩ = some (.string l[k].a) ∧ wz.cell? ⟨b, o + k * 3 + 2, none⟩ = some (.string l[k].b)) := Lib.hid (fun h wz hz => by
            obtain ⟨b', o', hbo, hb', y0, y1, y2⟩ := cell_of_ins (KH.out.on hz) h
            injection hbo with hbo
            injection hbo with e1 e2 _
            subst e1; subst e2
            exact ⟨y0, y1, y2⟩)
          by_cases hmq : m < attrs.length
          · have hkn : k < n := by omega
            have hkl : k < l.length := by have := KL.out; omega
            have ex : l[k] = atI attrs[m] := by
              have := ATX.out m hmq (by omega)
              rw [← this]
              congr 1
              omega
            have GK : Hid (∀ wz, Below w.heap.size w wz → wz.cell? ⟨b, o + k * 3, none⟩ = some (.int .i64 (atI attrs[m]).op) ∧ wz.cell? ⟨b, o + k * 3 + 1, none⟩ = some (.string (atI attrs[m]).a) ∧ wz.cell? ⟨b, o + k * 3 + 2, none⟩ = some (.string (atI attrs[m]).b)) := Lib.hid (fun wz hz => by
              have := GK0.out hkl wz hz
              rwa [ex] at this)
            have TK : Hid (attrs.take (m + 1) = attrs.take m ++ [attrs[m]]) := Lib.hid (by rw [List.take_add_one, List.getElem?_eq_getElem hmq]; rfl)
            have TL : Hid ((attrs.take m).length ≤ 1000) := Lib.hid (by rw [List.length_take]; omega)
            have KM2 : Hid (i + 1 + (m + 1) = k + 1) := Lib.hid (by omega)
            clear ex hkl hk GK0
            generalize attrs[m] = at0 at GK TK
            obtain ⟨nm, vl, st⟩ := at0
            simp only [atI] at GK
            obtain ⟨vi, hvi⟩ : ∃ v : Int, (if st then 6 else 5) = v := ⟨_, rfl⟩
            have htl : tellsO vi = true := by rw [← hvi]; cases st <;> rfl
            have q6 : (vi == 6) = st := by rw [← hvi]; cases st <;> rfl
            rw [hvi] at GK
            clear hvi
            have BW : Hid (Below w.heap.size w wr) := Lib.hid (HB.out.trans (HA.out.hb.mono hsz))
            obtain ⟨k0, k1, k2⟩ := GK.out wr BW.out
            have d4 : wr.cell? ⟨W.heap.size, 4, none⟩ = some (.slice A n0 c0) := HA.out.tq.c4
            go_wp2_with fail
            refine (tellsO_any _ wr).mono ?_
            rintro e w' ⟨rfl, rfl⟩
            rw [htl]
            go_upto_region 17 with fail
            refine Tl.region_last (S := (fun w' => w'.cell? ⟨W.heap.size, 4, none⟩ = some (.slice A n0 c0) ∧ w'.cell? ⟨b, o + k * 3, none⟩ = some (.int .i64 vi) ∧ w'.cell? ⟨b, o + k * 3 + 1, none⟩ = some (.string nm) ∧ w'.cell? ⟨b, o + k * 3 + 2, none⟩ = some (.string vl))) (by kernel_rfl) 22 _ rfl rfl rfl (by kernel_rfl) (by go_keep) (fun hHeld => ?_)
            simp only [List.setIfInBounds_toArray, List.set_cons_zero, List.set_cons_succ, Tl.idle]
            refine wpAnyH_take (i := 0) (v := ?v1) rfl (by kernel_rfl) (by kernel_rfl) (by kernel_rfl) (fun _ _ _ h => h) (Or.inl ⟨by rfl, ?hy1⟩) (by assumption) ?hr1
            case hy1 => (intro w' hSw; (try dsimp only at hSw); go_simp; try with_reducible rfl)
            (try simp only [Act.put, List.setIfInBounds_toArray, List.set_cons_zero, List.set_cons_succ])
            refine wpAnyH_take (i := 1) (v := ?v2) rfl (by kernel_rfl) (by kernel_rfl) (by kernel_rfl) (fun _ _ _ h => h) (Or.inl ⟨by rfl, ?hy2⟩) (by assumption) ?hr2
            case hy2 => (intro w' hSw; (try dsimp only at hSw); go_simp; try with_reducible rfl)
            (try simp only [Act.put, List.setIfInBounds_toArray, List.set_cons_zero, List.set_cons_succ])
            refine wpAnyH_take (i := 2) (v := ?v3) rfl (by kernel_rfl) (by kernel_rfl) (by kernel_rfl) (fun _ _ _ h => h) (Or.inl ⟨by rfl, ?hy3⟩) (by assumption) ?hr3
            case hy3 => (intro w' hSw; (try dsimp only at hSw); go_simp; try with_reducible rfl)
            (try simp only [Act.put, List.setIfInBounds_toArray, List.set_cons_zero, List.set_cons_succ])
            refine wpAnyH_take (i := 3) (v := ?v4) rfl (by kernel_rfl) (by kernel_rfl) (by kernel_rfl) (fun _ _ _ h => h) (Or.inl ⟨by rfl, ?hy4⟩) (by assumption) ?hr4
            case hy4 => (intro w' hSw; (try dsimp only at hSw); go_simp; try with_reducible rfl)
            (try simp only [Act.put, List.setIfInBounds_toArray, List.set_cons_zero, List.set_cons_succ])
            refine wpAnyH_take (i := 4) (v := ?v5) rfl (by kernel_rfl) (by kernel_rfl) (by kernel_rfl) (fun _ _ _ h => h) (Or.inl ⟨by rfl, ?hy5⟩) (by assumption) ?hr5
            case hy5 => (intro w' hSw; (try dsimp only at hSw); go_simp; try with_reducible rfl)
            (try simp only [Act.put, List.setIfInBounds_toArray, List.set_cons_zero, List.set_cons_succ])
            refine wpAnyH_take (i := 5) (v := ?v6) rfl (by kernel_rfl) (by kernel_rfl) (by kernel_rfl) (fun _ _ _ h => h) (Or.inl ⟨by rfl, ?hy6⟩) (by assumption) ?hr6
            case hy6 => (intro w' hSw; (try dsimp only at hSw); go_simp; try with_reducible rfl)
            (try simp only [Act.put, List.setIfInBounds_toArray, List.set_cons_zero, List.set_cons_succ])
            refine wpAnyH_take (i := 6) (v := ?v7) rfl (by kernel_rfl) (by kernel_rfl) (by kernel_rfl) (fun _ _ _ h => h) (Or.inl ⟨by rfl, ?hy7⟩) (by assumption) ?hr7
            case hy7 => (intro w' hSw; (try dsimp only at hSw); go_simp; try with_reducible rfl)
            (try simp only [Act.put, List.setIfInBounds_toArray, List.set_cons_zero, List.set_cons_succ])
            refine wpAnyH_take (i := 7) (v := ?v8) rfl (by kernel_rfl) (by kernel_rfl) (by kernel_rfl) (fun _ _ _ h => h) (Or.inl ⟨by rfl, ?hy8⟩) (by assumption) ?hr8
            case hy8 => (intro w' hSw; (try dsimp only at hSw); go_simp; try with_reducible rfl)
            (try simp only [Act.put, List.setIfInBounds_toArray, List.set_cons_zero, List.set_cons_succ])
            refine wpAnyH_take (i := 8) (v := ?v9) rfl (by kernel_rfl) (by kernel_rfl) (by kernel_rfl) (fun _ _ _ h => h) (Or.inl ⟨by rfl, ?hy9⟩) (by assumption) ?hr9
            case hy9 => (intro w' hSw; (try dsimp only at hSw); go_simp; try with_reducible rfl)
            (try simp only [Act.put, List.setIfInBounds_toArray, List.set_cons_zero, List.set_cons_succ])
            refine wpAnyH_take (i := 9) (v := ?v10) rfl (by kernel_rfl) (by kernel_rfl) (by kernel_rfl) (fun _ _ _ h => h) (Or.inl ⟨by rfl, ?hy10⟩) (by assumption) ?hr10
            case hy10 => (intro w' hSw; (try dsimp only at hSw); go_simp; try with_reducible rfl)
            (try simp only [Act.put, List.setIfInBounds_toArray, List.set_cons_zero, List.set_cons_succ])
            refine wpAnyH_take (i := 10) (v := ?v11) rfl (by kernel_rfl) (by kernel_rfl) (by kernel_rfl) (fun _ _ _ h => h) (Or.inl ⟨by rfl, ?hy11⟩) (by assumption) ?hr11
            case hy11 => (intro w' hSw; (try dsimp only at hSw); go_simp; try with_reducible rfl)
            (try simp only [Act.put, List.setIfInBounds_toArray, List.set_cons_zero, List.set_cons_succ])
            refine wpAnyH_take (i := 11) (v := ?v12) rfl (by kernel_rfl) (by kernel_rfl) (by kernel_rfl) (fun _ _ _ h => h) (Or.inl ⟨by rfl, ?hy12⟩) (by assumption) ?hr12
            case hy12 => (intro w' hSw; (try dsimp only at hSw); go_simp; try with_reducible rfl)
            (try simp only [Act.put, List.setIfInBounds_toArray, List.set_cons_zero, List.set_cons_succ])
            refine wpAnyH_take (i := 12) (v := ?v13) rfl (by kernel_rfl) (by kernel_rfl) (by kernel_rfl) (fun _ _ _ h => h) (Or.inl ⟨by rfl, ?hy13⟩) (by assumption) ?hr13
            case hy13 => (intro w' hSw; (try dsimp only at hSw); go_simp; try with_reducible rfl)
            (try simp only [Act.put, List.setIfInBounds_toArray, List.set_cons_zero, List.set_cons_succ])
            refine wpAnyH_take (i := 13) (v := ?v14) rfl (by kernel_rfl) (by kernel_rfl) (by kernel_rfl) (fun _ _ _ h => h) (Or.inl ⟨by rfl, ?hy14⟩) (by assumption) ?hr14
            case hy14 => (intro w' hSw; (try dsimp only at hSw); go_simp; try with_reducible rfl)
            (try simp only [Act.put, List.setIfInBounds_toArray, List.set_cons_zero, List.set_cons_succ])
            refine wpAnyH_take (i := 14) (v := ?v15) rfl (by kernel_rfl) (by kernel_rfl) (by kernel_rfl) (fun _ _ _ h => h) (Or.inl ⟨by rfl, ?hy15⟩) (by assumption) ?hr15
            case hy15 => (intro w' hSw; (try dsimp only at hSw); go_simp; try with_reducible rfl)
            (try simp only [Act.put, List.setIfInBounds_toArray, List.set_cons_zero, List.set_cons_succ])
            refine wpAnyH_take (i := 15) (v := ?v16) rfl (by kernel_rfl) (by kernel_rfl) (by kernel_rfl) (fun _ _ _ h => h) (Or.inl ⟨by rfl, ?hy16⟩) (by assumption) ?hr16
            case hy16 => (intro w' hSw; (try dsimp only at hSw); go_simp; try with_reducible rfl)
            (try simp only [Act.put, List.setIfInBounds_toArray, List.set_cons_zero, List.set_cons_succ])
            refine wpAnyH_take (i := 16) (v := ?v17) rfl (by kernel_rfl) (by kernel_rfl) (by kernel_rfl) (fun _ _ _ h => h) (Or.inl ⟨by rfl, ?hy17⟩) (by assumption) ?hr17
            case hy17 => (intro w' hSw; (try dsimp only at hSw); go_simp; try with_reducible rfl)
            (try simp only [Act.put, List.setIfInBounds_toArray, List.set_cons_zero, List.set_cons_succ])
            refine wpAnyH_take (i := 17) (v := ?v18) rfl (by kernel_rfl) (by kernel_rfl) (by kernel_rfl) (fun _ _ _ h => h) (Or.inl ⟨by rfl, ?hy18⟩) (by assumption) ?hr18
            case hy18 => (intro w' hSw; (try dsimp only at hSw); go_simp; try with_reducible rfl)
            (try simp only [Act.put, List.setIfInBounds_toArray, List.set_cons_zero, List.set_cons_succ])
            refine wpAnyH_take (i := 18) (v := ?v19) rfl (by kernel_rfl) (by kernel_rfl) (by kernel_rfl) (fun _ _ _ h => h) (Or.inl ⟨by rfl, ?hy19⟩) (by assumption) ?hr19
            case hy19 => (intro w' hSw; (try dsimp only at hSw); go_simp; try with_reducible rfl)
            (try simp only [Act.put, List.setIfInBounds_toArray, List.set_cons_zero, List.set_cons_succ])
            refine wpAnyH_ready (rs := [19]) (by kernel_rfl) (by simp) ?_
            refine AllReadyH.cons rfl (fun K hK => ?_) ?_
            · go_simp
              refine hK.out _ _ ?_ (fun hHeld => ?_)
              · go_keep
              clear hK K
              (try simp only [Act.put, List.setIfInBounds_toArray, List.set_cons_zero, List.set_cons_succ])
              refine wpAnyH_ready (rs := [20]) (by kernel_rfl) (by simp) ?_
              refine AllReadyH.cons rfl (fun K hK => ?_) ?_
              · refine kA.step_app rfl (.tmp 71) (.tmp 89) rfl (v := .slice A n0 c0) (l := attrs.take m) (m := [⟨nm, vl, st⟩]) (B := W.heap.size + 1) (A := some ⟨wr.heap.size, 0, none⟩) (n := 1) (c := 1) rfl (HA.out.own.drew.alloc _) rfl rfl (fun e => by cases e) (Kind.Holds.lit (heap_alloc_new _ _) rfl) (by have := TL.out; simp; omega) (by have := heap_lt HA.out.tq; simp; omega) ?_; intro v7 w7 hown7 hgrow7 hat7; obtain ⟨A7, n7, c7, rfl, _, _, _, _, _⟩ := hown7.slice; have AP := HA.out.app hgrow7 hown7; have t7 : w7.heap[W.heap.size]? = _ := ((hgrow7.block _ (by have := heap_lt HA.out.tq; simp; omega) (fun e => by have := (HA.out.own.lt e.symm).1; omega)).trans (heap_up (w := wr.drew) HA.out.tq)); have e7 : w7.cell? ⟨W.heap.size, 4, none⟩ = some (.slice A n0 c0) := cell_of_row w7 W.heap.size 4 _ _ (0, 0) t7; have f7 : w7.frozen? ⟨W.heap.size, 4, none⟩ = false := (by simp [World.frozen?, t7]); have B7 : Below W.heap.size W w7 := (HA.out.hb.drew.alloc HA.out.hb.size _).grown hgrow7 (by have := HA.out.hb.size; simp; omega) (fun k hk => by have := (HA.out.own.lt hk).1; omega); have G7 := GK.out w7 (HB.out.trans (B7.mono hsz)); clear hown7 hgrow7 hat7 t7
                refine hK.out _ _ ?_ (fun hHeld => ?_)
                · exact ⟨e7, G7.1, G7.2.1, G7.2.2⟩
                clear hK K
                (try simp only [Act.put, List.setIfInBounds_toArray, List.set_cons_zero, List.set_cons_succ])
                refine wpAnyH_take (i := 21) (v := ?v20) rfl (by kernel_rfl) (by kernel_rfl) (by kernel_rfl) (fun _ _ _ h => h) (Or.inl ⟨by rfl, ?hy20⟩) (by assumption) ?hr20
                case hy20 => (intro w' hSw; (try dsimp only at hSw); go_simp; try with_reducible rfl)
                (try simp only [Act.put, List.setIfInBounds_toArray, List.set_cons_zero, List.set_cons_succ])
                refine wpAnyH_take (i := 22) (v := ?v21) rfl (by kernel_rfl) (by kernel_rfl) (by kernel_rfl) (fun _ _ _ h => h) (Or.inl ⟨by rfl, ?hy21⟩) (by assumption) ?hr21
                case hy21 => (intro w' hSw; (try dsimp only at hSw); go_simp; try with_reducible rfl)
                (try simp only [Act.put, List.setIfInBounds_toArray, List.set_cons_zero, List.set_cons_succ])
                refine wpAnyH_done (by kernel_rfl) ?_ _
                intro K hK
                go_simp
                refine hK _ _ ?_
                clear hK K
                have AP2 : Hid (ASt W (w7.setCell ⟨W.heap.size, 4, none⟩ (.slice A7 n7 c7)) tag key A7 n7 c7 (attrs.take (m + 1))) := Lib.hid (by rw [TK.out]; exact AP)
                generalize w7.setCell ⟨W.heap.size, 4, none⟩ (.slice A7 n7 c7) = w9 at AP2 ⊢
                clear AP e7 f7 B7 G7
                go_wp2_with fail
                go_roundw
                case rel => exact ⟨m + 1, A7, n7, c7, by omega, by rw [KM2.out]; go_num, AP2⟩
                case measure => (simp [intOf]; have := KM.out; omega)
              exact AllReadyH.nil
            exact AllReadyH.nil
          · obtain rfl : m = attrs.length := by omega
            have HAF : Hid (ASt W wr tag key A n0 c0 attrs) := Lib.hid (by have := HA.out; rwa [List.take_length] at this)
            have BW : Hid (Below w.heap.size w wr) := Lib.hid (HB.out.trans (HA.out.hb.mono hsz))
            clear HA
            by_cases hkn : k < n
            · have hkl : k < l.length := by have := KL.out; omega
              have HTF : Hid (tellsO l[k].op = false) := Lib.hid (by
                have := NAT.out (by omega)
                have e : l[i + 1 + attrs.length]'(by omega) = l[k] := by congr 1
                rwa [e] at this)
              obtain ⟨k0, k1, k2⟩ := GK0.out hkl wr BW.out
              clear GK0 hk
              generalize l[k] = xk at k0 k1 k2 HTF
              obtain ⟨ko, ka, kb⟩ := xk
              simp only at k0 k1 k2 HTF
              go_wp2_with fail
              refine (tellsO_any ko wr).mono ?_
              rintro e w' ⟨rfl, rfl⟩
              rw [HTF.out]
              have CE : Hid (Calls Try.prog 23 #[.slice (some ⟨b, o, none⟩) n c, .int .i64 i] wr fun e w' => e = .returned (.int .i64 ((i + attrs.length : Nat) : Int)) ∧ wr = w') := Lib.hid (by
                have hil2 : i < l.length := by have := KL.out; omega
                exact rend_void l _ n c i attrs.length wr ((KH.out.below BW.out (Nat.le_refl _)).more BW.out.size) KL.out hl hil2 (by rw [FST.out _ _ hbk]) (by omega) (fun x h h1 h2 => by
                  have := ATX.out (x - 1) (by omega) (by omega)
                  have e : l[i + x] = l[i + 1 + (x - 1)]'(by omega) := by congr 1; omega
                  rw [e, this]
                  cases hst : (attrs[x - 1]'(by omega)).st <;> simp [atI, hst, tellsO]) (fun h => by
                  have := NAT.out (by omega)
                  have e : l[i + attrs.length + 1] = l[i + 1 + attrs.length]'(by omega) := by congr 1; omega
                  rw [e]
                  exact this))
              obtain ⟨g0, g1, g2⟩ := G.out wr BW.out
              (try simp only at g0 g1 g2)
              have LAST : Hid (i + attrs.length + 1 = (backL (ws.take (j + 1))).length) := Lib.hid (by rw [NXT.out, List.length_append, HI0.out, hbk]; simp only [List.length_cons, List.length_map]; omega)
              generalize hla : i + attrs.length = la at CE LAST
              have hlan : la < n := by omega
              have hila : i ≤ la := by omega
              clear hla
              go_wp2_with fail
              refine CE.out.mono ?_
              rintro e w' ⟨rfl, rfl⟩
              have t0 := HAF.out.tq.c0; have t1 := HAF.out.tq.c1; have t2 := HAF.out.tq.c2; have t3 := HAF.out.tq.c3; have t4 := HAF.out.tq.c4; have t5 := HAF.out.tq.c5
              have O5 := Lib.hid (HO.out.below HAF.out.hb (Nat.le_refl _))
              have T5 : Hid (∀ t ∈ us, WNew kQ wr (fun b => w.heap.size ≤ b ∧ (Value.slice A' n' c').ownBlock ≠ some b) t) := Lib.hid (fun t ht => (HT.out t ht).later HAF.out.hb)
              have NEWW : Hid (WNew kQ wr (fun b => w.heap.size ≤ b ∧ (Value.slice A' n' c').ownBlock ≠ some b) (.mk 1 tag key zB ⟨A, n0, c0⟩ attrs ⟨none, 0, 0⟩ [])) := Lib.hid (by
                obtain ⟨s, hv, ha⟩ := AOk.own HAF.out.own
                have e : s = ⟨A, n0, c0⟩ := by
                  obtain ⟨As, ns, cs⟩ := s
                  unfold Sv.val at hv
                  injection hv with e1 e2 e3
                  subst e1; subst e2; subst e3
                  rfl
                subst e
                exact WNew.mk (sk := ⟨none, 0, 0⟩) ha (Kind.Own.nil kQ wr 0) (fun b hb => by cases hb) (fun k hk => by cases hk))
              have hszr := BW.out.size
              go_wp2_with (at_builtin; refine kQ.wp_app rfl _ _ rfl (v := .slice A' n' c') (l := us) (m := [.mk 1 tag key zB ⟨A, n0, c0⟩ attrs ⟨none, 0, 0⟩ []]) (B := w.heap.size) rfl (O5.out.alloc _) rfl rfl (fun e => by cases e) (Kind.Holds.lit (heap_alloc_new _ _) rfl) (by have := HUL.out; simp; omega) (by simp; omega) ?_; intro v' w4 hown' hgrow hat)
              obtain ⟨A4, n4, c4, rfl, e1, e2, e3, e4, e5⟩ := hown'.slice
              have LG := wants_grew (K := kQ) (by decide) O5.out T5.out NEWW.out hgrow hat
              have B4 : Hid (Below w.heap.size w w4) := Lib.hid (BW.out.trans (LG.2.to_below (fun i _ hi => (O5.out.lt hi).1) hszr))
              have REL : Hid (OfRel w ws (.slice A4 n4 c4) (.int .i64 ((la + 1 : Nat) : Int)) w4) := Lib.hid ⟨j + 1, A4, n4, c4, _, by omega, by rw [LAST.out], rfl, Lib.hid (by rw [erL_append, HU.out, HTK.out]; congr 1), Lib.hid hown', Lib.hid LG.1, B4⟩
              clear LG hown' hgrow hat e1 e2 e3 e4 e5
              go_wp2_with fail
              go_roundw
              case rel => exact REL.out
              case measure => (simp [intOf]; omega)
            · have CE : Hid (Calls Try.prog 23 #[.slice (some ⟨b, o, none⟩) n c, .int .i64 i] wr fun e w' => e = .returned (.int .i64 ((i + attrs.length : Nat) : Int)) ∧ wr = w') := Lib.hid (by
                have hil2 : i < l.length := by have := KL.out; omega
                exact rend_void l _ n c i attrs.length wr ((KH.out.below BW.out (Nat.le_refl _)).more BW.out.size) KL.out hl hil2 (by rw [FST.out _ _ hbk]) (by omega) (fun x h h1 h2 => by
                  have := ATX.out (x - 1) (by omega) (by omega)
                  have e : l[i + x] = l[i + 1 + (x - 1)]'(by omega) := by congr 1; omega
                  rw [e, this]
                  cases hst : (attrs[x - 1]'(by omega)).st <;> simp [atI, hst, tellsO]) (fun h => by
                  have := NAT.out (by omega)
                  have e : l[i + attrs.length + 1] = l[i + 1 + attrs.length]'(by omega) := by congr 1; omega
                  rw [e]
                  exact this))
              obtain ⟨g0, g1, g2⟩ := G.out wr BW.out
              (try simp only at g0 g1 g2)
              have LAST : Hid (i + attrs.length + 1 = (backL (ws.take (j + 1))).length) := Lib.hid (by rw [NXT.out, List.length_append, HI0.out, hbk]; simp only [List.length_cons, List.length_map]; omega)
              generalize hla : i + attrs.length = la at CE LAST
              have hlan : la < n := by omega
              have hila : i ≤ la := by omega
              clear hla
              go_wp2_with fail
              refine CE.out.mono ?_
              rintro e w' ⟨rfl, rfl⟩
              have t0 := HAF.out.tq.c0; have t1 := HAF.out.tq.c1; have t2 := HAF.out.tq.c2; have t3 := HAF.out.tq.c3; have t4 := HAF.out.tq.c4; have t5 := HAF.out.tq.c5
              have O5 := Lib.hid (HO.out.below HAF.out.hb (Nat.le_refl _))
              have T5 : Hid (∀ t ∈ us, WNew kQ wr (fun b => w.heap.size ≤ b ∧ (Value.slice A' n' c').ownBlock ≠ some b) t) := Lib.hid (fun t ht => (HT.out t ht).later HAF.out.hb)
              have NEWW : Hid (WNew kQ wr (fun b => w.heap.size ≤ b ∧ (Value.slice A' n' c').ownBlock ≠ some b) (.mk 1 tag key zB ⟨A, n0, c0⟩ attrs ⟨none, 0, 0⟩ [])) := Lib.hid (by
                obtain ⟨s, hv, ha⟩ := AOk.own HAF.out.own
                have e : s = ⟨A, n0, c0⟩ := by
                  obtain ⟨As, ns, cs⟩ := s
                  unfold Sv.val at hv
                  injection hv with e1 e2 e3
                  subst e1; subst e2; subst e3
                  rfl
                subst e
                exact WNew.mk (sk := ⟨none, 0, 0⟩) ha (Kind.Own.nil kQ wr 0) (fun b hb => by cases hb) (fun k hk => by cases hk))
              have hszr := BW.out.size
              go_wp2_with (at_builtin; refine kQ.wp_app rfl _ _ rfl (v := .slice A' n' c') (l := us) (m := [.mk 1 tag key zB ⟨A, n0, c0⟩ attrs ⟨none, 0, 0⟩ []]) (B := w.heap.size) rfl (O5.out.alloc _) rfl rfl (fun e => by cases e) (Kind.Holds.lit (heap_alloc_new _ _) rfl) (by have := HUL.out; simp; omega) (by simp; omega) ?_; intro v' w4 hown' hgrow hat)
              obtain ⟨A4, n4, c4, rfl, e1, e2, e3, e4, e5⟩ := hown'.slice
              have LG := wants_grew (K := kQ) (by decide) O5.out T5.out NEWW.out hgrow hat
              have B4 : Hid (Below w.heap.size w w4) := Lib.hid (BW.out.trans (LG.2.to_below (fun i _ hi => (O5.out.lt hi).1) hszr))
              have REL : Hid (OfRel w ws (.slice A4 n4 c4) (.int .i64 ((la + 1 : Nat) : Int)) w4) := Lib.hid ⟨j + 1, A4, n4, c4, _, by omega, by rw [LAST.out], rfl, Lib.hid (by rw [erL_append, HU.out, HTK.out]; congr 1), Lib.hid hown', Lib.hid LG.1, B4⟩
              clear LG hown' hgrow hat e1 e2 e3 e4 e5
              go_wp2_with fail
              go_roundw
              case rel => exact REL.out
              case measure => (simp [intOf]; omega)
      | el hm ha hk =>
        rename_i tag key attrs kids
        have hk0 := hk
        clear hk
        have hmay := hm
        have hbk := back_open (key := key) (txt := z0) (attrs := attrs) (kids := kids) (may_open hm)
        have e0 := FST.out _ _ hbk
        rw [e0] at G
        clear e0
        obtain ⟨g0, g1, g2⟩ := G.out W HB.out
        (try simp only at g0 g1 g2)
        have ATL : Hid (attrs.length + 2 ≤ (backW (PW.mk 1 tag key z0 attrs kids)).length) := Lib.hid (by rw [hbk]; simp only [List.length_cons, List.length_append, List.length_map, List.length_nil]; omega)
        have hal : i + attrs.length < n := by have := ATL.out; have := LEN.out; omega
        -- the instructions behind it
        have ATX : Hid (∀ m (h : m < attrs.length), ∀ (h2 : i + 1 + m < l.length), l[i + 1 + m] = atI attrs[m]) := Lib.hid (fun m h h2 => by
          have h3 : m + 1 < (backW (PW.mk 1 tag key z0 attrs kids) ++ post).length := by rw [List.length_append, hbk]; simp only [List.length_cons, List.length_append, List.length_map]; omega
          have h4 := at_pre SPL.out (i := m + 1) (by rw [HI0.out]; omega) h3
          have h5 : l[i + 1 + m] = l[(backL (ws.take j)).length + (m + 1)]'(by rw [HI0.out]; omega) := by congr 1; rw [HI0.out]; omega
          rw [h5, h4]
          simp only [hbk, List.cons_append, List.getElem_cons_succ]
          rw [List.getElem_append_left (by simp; omega)]
          rw [List.getElem_append_left (by simpa using h), List.getElem_map])
        have NAT : Hid (∀ (h : i + 1 + attrs.length < l.length), tellsO l[i + 1 + attrs.length].op = false) := Lib.hid (fun h => by
          have h6 : l = (backL (ws.take j) ++ (⟨1, tag, key⟩ :: attrs.map atI)) ++ (backL kids ++ (⟨2, z0, z0⟩ :: post)) := by rw [SPL.out, hbk]; simp only [List.append_assoc, List.cons_append, List.nil_append]
          have h7 : (backL (ws.take j) ++ (⟨1, tag, key⟩ :: attrs.map atI)).length = i + 1 + attrs.length := by simp only [List.length_append, List.length_cons, List.length_map, HI0.out]; omega
          have h8 : 0 < (backL kids ++ (⟨2, z0, z0⟩ :: post)).length := by
            have := congrArg List.length h6
            rw [List.length_append, h7] at this
            omega
          have h9 := at_pre h6 (i := 0) (by rw [h7]; simpa using h) h8
          have h10 : l[i + 1 + attrs.length] = l[(backL (ws.take j) ++ (⟨1, tag, key⟩ :: attrs.map atI)).length + 0]'(by rw [h7]; simpa using h) := by congr 1; rw [h7]; rfl
          rw [h10, h9]
          have hh : HeadT (backL kids ++ (⟨2, z0, z0⟩ :: post)) := backL_head hk0 (HeadT.cons rfl)
          exact hh _ (by rw [List.head?_eq_getElem?, List.getElem?_eq_getElem h8]))
        go_upto_region 14 with fail
        go_cut [5] (fun s5 wx => s5 = .pointer (some ⟨W.heap.size, 0, none⟩) ∧ Hid (Below W.heap.size W wx) ∧ Hid (TQ wx W.heap.size tag key none 0 0 none 0 0))
        case first =>
          go_region_held3 (fun w' => w'.cell? ⟨b, o + i * 3 + 1, none⟩ = some (.string tag) ∧ w'.cell? ⟨b, o + i * 3 + 2, none⟩ = some (.string key)) (go_keep) (fail)
          all_goals
            go_wp2_with fail
            go_meet
            exact ⟨rfl, Lib.hid (((Below.refl _ _).alloc (Nat.le_refl _) _).drew), Lib.hid (P5.heap_drew (heap_alloc_new W _))⟩
        case rest =>
        obtain ⟨rfl, b2, t2⟩ := hcut
        obtain ⟨w2, rfl⟩ : ∃ w2, w2 = wc := ⟨_, rfl⟩
        have AS : Hid (ASt W w2 tag key none 0 0 []) := Lib.hid ⟨t2.out, Kind.Own.nil kA w2 _, b2.out⟩
        have ST2 : Hid (AtRel W tag key attrs i (.int .i64 ((i : Int) + 1)) w2) := Lib.hid ⟨0, none, 0, 0, by omega, by go_num, AS⟩
        clear b2 t2 AS g0 g1 g2
        go_wp2_with fail
        go_loopw [6] (fun s6 wr => AtRel W tag key attrs i s6 wr) (fun s6 _ => n - (intOf s6).toNat)
        case atStart => exact ST2.out
        case round =>
          obtain ⟨m, A, n0, c0, hm, rfl, HA⟩ := hrel
          clear ST2
          obtain ⟨k, hk⟩ : ∃ k, i + 1 + m = k := ⟨_, rfl⟩
          have KM := Lib.hid hk
          rw [hk]
          have GK0 : Hid (∀ (h : k < l.length), ∀ wz, Below w.heap.size w wz → wz.cell? ⟨b, o + k * 3, none⟩ = some (.int .i64 l[k].op) ∧ wz.cell? ⟨b, o + k * 3 + 1, none⟩ = some (.string l[k].a) ∧ wz.cell? ⟨b, o + k * 3 + 2, none⟩ = some (.string l[k].b)) := Lib.hid (fun h wz hz => by
            obtain ⟨b', o', hbo, hb', y0, y1, y2⟩ := cell_of_ins (KH.out.on hz) h
            injection hbo with hbo
            injection hbo with e1 e2 _
            subst e1; subst e2
            exact ⟨y0, y1, y2⟩)
          by_cases hmq : m < attrs.length
          · have hkn : k < n := by omega
            have hkl : k < l.length := by have := KL.out; omega
            have ex : l[k] = atI attrs[m] := by
              have := ATX.out m hmq (by omega)
              rw [← this]
              congr 1
              omega
            have GK : Hid (∀ wz, Below w.heap.size w wz → wz.cell? ⟨b, o + k * 3, none⟩ = some (.int .i64 (atI attrs[m]).op) ∧ wz.cell? ⟨b, o + k * 3 + 1, none⟩ = some (.string (atI attrs[m]).a) ∧ wz.cell? ⟨b, o + k * 3 + 2, none⟩ = some (.string (atI attrs[m]).b)) := Lib.hid (fun wz hz => by
              have := GK0.out hkl wz hz
              rwa [ex] at this)
            have TK : Hid (attrs.take (m + 1) = attrs.take m ++ [attrs[m]]) := Lib.hid (by rw [List.take_add_one, List.getElem?_eq_getElem hmq]; rfl)
            have TL : Hid ((attrs.take m).length ≤ 1000) := Lib.hid (by rw [List.length_take]; omega)
            have KM2 : Hid (i + 1 + (m + 1) = k + 1) := Lib.hid (by omega)
            clear ex hkl hk GK0
            generalize attrs[m] = at0 at GK TK
            obtain ⟨nm, vl, st⟩ := at0
            simp only [atI] at GK
            obtain ⟨vi, hvi⟩ : ∃ v : Int, (if st then 6 else 5) = v := ⟨_, rfl⟩
            have htl : tellsO vi = true := by rw [← hvi]; cases st <;> rfl
            have q6 : (vi == 6) = st := by rw [← hvi]; cases st <;> rfl
            rw [hvi] at GK
            clear hvi
            have BW : Hid (Below w.heap.size w wr) := Lib.hid (HB.out.trans (HA.out.hb.mono hsz))
            obtain ⟨k0, k1, k2⟩ := GK.out wr BW.out
            have d4 : wr.cell? ⟨W.heap.size, 4, none⟩ = some (.slice A n0 c0) := HA.out.tq.c4
            go_wp2_with fail
            refine (tellsO_any _ wr).mono ?_
            rintro e w' ⟨rfl, rfl⟩
            rw [htl]
            go_upto_region 17 with fail
            refine Tl.region_last (S := (fun w' => w'.cell? ⟨W.heap.size, 4, none⟩ = some (.slice A n0 c0) ∧ w'.cell? ⟨b, o + k * 3, none⟩ = some (.int .i64 vi) ∧ w'.cell? ⟨b, o + k * 3 + 1, none⟩ = some (.string nm) ∧ w'.cell? ⟨b, o + k * 3 + 2, none⟩ = some (.string vl))) (by kernel_rfl) 22 _ rfl rfl rfl (by kernel_rfl) (by go_keep) (fun hHeld => ?_)
            simp only [List.setIfInBounds_toArray, List.set_cons_zero, List.set_cons_succ, Tl.idle]
            refine wpAnyH_take (i := 0) (v := ?v22) rfl (by kernel_rfl) (by kernel_rfl) (by kernel_rfl) (fun _ _ _ h => h) (Or.inl ⟨by rfl, ?hy22⟩) (by assumption) ?hr22
            case hy22 => (intro w' hSw; (try dsimp only at hSw); go_simp; try with_reducible rfl)
            (try simp only [Act.put, List.setIfInBounds_toArray, List.set_cons_zero, List.set_cons_succ])
            refine wpAnyH_take (i := 1) (v := ?v23) rfl (by kernel_rfl) (by kernel_rfl) (by kernel_rfl) (fun _ _ _ h => h) (Or.inl ⟨by rfl, ?hy23⟩) (by assumption) ?hr23
            case hy23 => (intro w' hSw; (try dsimp only at hSw); go_simp; try with_reducible rfl)
            (try simp only [Act.put, List.setIfInBounds_toArray, List.set_cons_zero, List.set_cons_succ])
            refine wpAnyH_take (i := 2) (v := ?v24) rfl (by kernel_rfl) (by kernel_rfl) (by kernel_rfl) (fun _ _ _ h => h) (Or.inl ⟨by rfl, ?hy24⟩) (by assumption) ?hr24
            case hy24 => (intro w' hSw; (try dsimp only at hSw); go_simp; try with_reducible rfl)
            (try simp only [Act.put, List.setIfInBounds_toArray, List.set_cons_zero, List.set_cons_succ])
            refine wpAnyH_take (i := 3) (v := ?v25) rfl (by kernel_rfl) (by kernel_rfl) (by kernel_rfl) (fun _ _ _ h => h) (Or.inl ⟨by rfl, ?hy25⟩) (by assumption) ?hr25
            case hy25 => (intro w' hSw; (try dsimp only at hSw); go_simp; try with_reducible rfl)
            (try simp only [Act.put, List.setIfInBounds_toArray, List.set_cons_zero, List.set_cons_succ])
            refine wpAnyH_take (i := 4) (v := ?v26) rfl (by kernel_rfl) (by kernel_rfl) (by kernel_rfl) (fun _ _ _ h => h) (Or.inl ⟨by rfl, ?hy26⟩) (by assumption) ?hr26
            case hy26 => (intro w' hSw; (try dsimp only at hSw); go_simp; try with_reducible rfl)
            (try simp only [Act.put, List.setIfInBounds_toArray, List.set_cons_zero, List.set_cons_succ])
            refine wpAnyH_take (i := 5) (v := ?v27) rfl (by kernel_rfl) (by kernel_rfl) (by kernel_rfl) (fun _ _ _ h => h) (Or.inl ⟨by rfl, ?hy27⟩) (by assumption) ?hr27
            case hy27 => (intro w' hSw; (try dsimp only at hSw); go_simp; try with_reducible rfl)
            (try simp only [Act.put, List.setIfInBounds_toArray, List.set_cons_zero, List.set_cons_succ])
            refine wpAnyH_take (i := 6) (v := ?v28) rfl (by kernel_rfl) (by kernel_rfl) (by kernel_rfl) (fun _ _ _ h => h) (Or.inl ⟨by rfl, ?hy28⟩) (by assumption) ?hr28
            case hy28 => (intro w' hSw; (try dsimp only at hSw); go_simp; try with_reducible rfl)
            (try simp only [Act.put, List.setIfInBounds_toArray, List.set_cons_zero, List.set_cons_succ])
            refine wpAnyH_take (i := 7) (v := ?v29) rfl (by kernel_rfl) (by kernel_rfl) (by kernel_rfl) (fun _ _ _ h => h) (Or.inl ⟨by rfl, ?hy29⟩) (by assumption) ?hr29
            case hy29 => (intro w' hSw; (try dsimp only at hSw); go_simp; try with_reducible rfl)
            (try simp only [Act.put, List.setIfInBounds_toArray, List.set_cons_zero, List.set_cons_succ])
            refine wpAnyH_take (i := 8) (v := ?v30) rfl (by kernel_rfl) (by kernel_rfl) (by kernel_rfl) (fun _ _ _ h => h) (Or.inl ⟨by rfl, ?hy30⟩) (by assumption) ?hr30
            case hy30 => (intro w' hSw; (try dsimp only at hSw); go_simp; try with_reducible rfl)
            (try simp only [Act.put, List.setIfInBounds_toArray, List.set_cons_zero, List.set_cons_succ])
            refine wpAnyH_take (i := 9) (v := ?v31) rfl (by kernel_rfl) (by kernel_rfl) (by kernel_rfl) (fun _ _ _ h => h) (Or.inl ⟨by rfl, ?hy31⟩) (by assumption) ?hr31
            case hy31 => (intro w' hSw; (try dsimp only at hSw); go_simp; try with_reducible rfl)
            (try simp only [Act.put, List.setIfInBounds_toArray, List.set_cons_zero, List.set_cons_succ])
            refine wpAnyH_take (i := 10) (v := ?v32) rfl (by kernel_rfl) (by kernel_rfl) (by kernel_rfl) (fun _ _ _ h => h) (Or.inl ⟨by rfl, ?hy32⟩) (by assumption) ?hr32
            case hy32 => (intro w' hSw; (try dsimp only at hSw); go_simp; try with_reducible rfl)
            (try simp only [Act.put, List.setIfInBounds_toArray, List.set_cons_zero, List.set_cons_succ])
            refine wpAnyH_take (i := 11) (v := ?v33) rfl (by kernel_rfl) (by kernel_rfl) (by kernel_rfl) (fun _ _ _ h => h) (Or.inl ⟨by rfl, ?hy33⟩) (by assumption) ?hr33
            case hy33 => (intro w' hSw; (try dsimp only at hSw); go_simp; try with_reducible rfl)
            (try simp only [Act.put, List.setIfInBounds_toArray, List.set_cons_zero, List.set_cons_succ])
            refine wpAnyH_take (i := 12) (v := ?v34) rfl (by kernel_rfl) (by kernel_rfl) (by kernel_rfl) (fun _ _ _ h => h) (Or.inl ⟨by rfl, ?hy34⟩) (by assumption) ?hr34
            case hy34 => (intro w' hSw; (try dsimp only at hSw); go_simp; try with_reducible rfl)
            (try simp only [Act.put, List.setIfInBounds_toArray, List.set_cons_zero, List.set_cons_succ])
            refine wpAnyH_take (i := 13) (v := ?v35) rfl (by kernel_rfl) (by kernel_rfl) (by kernel_rfl) (fun _ _ _ h => h) (Or.inl ⟨by rfl, ?hy35⟩) (by assumption) ?hr35
            case hy35 => (intro w' hSw; (try dsimp only at hSw); go_simp; try with_reducible rfl)
            (try simp only [Act.put, List.setIfInBounds_toArray, List.set_cons_zero, List.set_cons_succ])
            refine wpAnyH_take (i := 14) (v := ?v36) rfl (by kernel_rfl) (by kernel_rfl) (by kernel_rfl) (fun _ _ _ h => h) (Or.inl ⟨by rfl, ?hy36⟩) (by assumption) ?hr36
            case hy36 => (intro w' hSw; (try dsimp only at hSw); go_simp; try with_reducible rfl)
            (try simp only [Act.put, List.setIfInBounds_toArray, List.set_cons_zero, List.set_cons_succ])
            refine wpAnyH_take (i := 15) (v := ?v37) rfl (by kernel_rfl) (by kernel_rfl) (by kernel_rfl) (fun _ _ _ h => h) (Or.inl ⟨by rfl, ?hy37⟩) (by assumption) ?hr37
            case hy37 => (intro w' hSw; (try dsimp only at hSw); go_simp; try with_reducible rfl)
            (try simp only [Act.put, List.setIfInBounds_toArray, List.set_cons_zero, List.set_cons_succ])
            refine wpAnyH_take (i := 16) (v := ?v38) rfl (by kernel_rfl) (by kernel_rfl) (by kernel_rfl) (fun _ _ _ h => h) (Or.inl ⟨by rfl, ?hy38⟩) (by assumption) ?hr38
            case hy38 => (intro w' hSw; (try dsimp only at hSw); go_simp; try with_reducible rfl)
            (try simp only [Act.put, List.setIfInBounds_toArray, List.set_cons_zero, List.set_cons_succ])
            refine wpAnyH_take (i := 17) (v := ?v39) rfl (by kernel_rfl) (by kernel_rfl) (by kernel_rfl) (fun _ _ _ h => h) (Or.inl ⟨by rfl, ?hy39⟩) (by assumption) ?hr39
            case hy39 => (intro w' hSw; (try dsimp only at hSw); go_simp; try with_reducible rfl)
            (try simp only [Act.put, List.setIfInBounds_toArray, List.set_cons_zero, List.set_cons_succ])
            refine wpAnyH_take (i := 18) (v := ?v40) rfl (by kernel_rfl) (by kernel_rfl) (by kernel_rfl) (fun _ _ _ h => h) (Or.inl ⟨by rfl, ?hy40⟩) (by assumption) ?hr40
            case hy40 => (intro w' hSw; (try dsimp only at hSw); go_simp; try with_reducible rfl)
            (try simp only [Act.put, List.setIfInBounds_toArray, List.set_cons_zero, List.set_cons_succ])
            refine wpAnyH_ready (rs := [19]) (by kernel_rfl) (by simp) ?_
            refine AllReadyH.cons rfl (fun K hK => ?_) ?_
            · go_simp
              refine hK.out _ _ ?_ (fun hHeld => ?_)
              · go_keep
              clear hK K
              (try simp only [Act.put, List.setIfInBounds_toArray, List.set_cons_zero, List.set_cons_succ])
              refine wpAnyH_ready (rs := [20]) (by kernel_rfl) (by simp) ?_
              refine AllReadyH.cons rfl (fun K hK => ?_) ?_
              · refine kA.step_app rfl (.tmp 71) (.tmp 89) rfl (v := .slice A n0 c0) (l := attrs.take m) (m := [⟨nm, vl, st⟩]) (B := W.heap.size + 1) (A := some ⟨wr.heap.size, 0, none⟩) (n := 1) (c := 1) rfl (HA.out.own.drew.alloc _) rfl rfl (fun e => by cases e) (Kind.Holds.lit (heap_alloc_new _ _) rfl) (by have := TL.out; simp; omega) (by have := heap_lt HA.out.tq; simp; omega) ?_; intro v7 w7 hown7 hgrow7 hat7; obtain ⟨A7, n7, c7, rfl, _, _, _, _, _⟩ := hown7.slice; have AP := HA.out.app hgrow7 hown7; have t7 : w7.heap[W.heap.size]? = _ := ((hgrow7.block _ (by have := heap_lt HA.out.tq; simp; omega) (fun e => by have := (HA.out.own.lt e.symm).1; omega)).trans (heap_up (w := wr.drew) HA.out.tq)); have e7 : w7.cell? ⟨W.heap.size, 4, none⟩ = some (.slice A n0 c0) := cell_of_row w7 W.heap.size 4 _ _ (0, 0) t7; have f7 : w7.frozen? ⟨W.heap.size, 4, none⟩ = false := (by simp [World.frozen?, t7]); have B7 : Below W.heap.size W w7 := (HA.out.hb.drew.alloc HA.out.hb.size _).grown hgrow7 (by have := HA.out.hb.size; simp; omega) (fun k hk => by have := (HA.out.own.lt hk).1; omega); have G7 := GK.out w7 (HB.out.trans (B7.mono hsz)); clear hown7 hgrow7 hat7 t7
                refine hK.out _ _ ?_ (fun hHeld => ?_)
                · exact ⟨e7, G7.1, G7.2.1, G7.2.2⟩
                clear hK K
                (try simp only [Act.put, List.setIfInBounds_toArray, List.set_cons_zero, List.set_cons_succ])
                refine wpAnyH_take (i := 21) (v := ?v41) rfl (by kernel_rfl) (by kernel_rfl) (by kernel_rfl) (fun _ _ _ h => h) (Or.inl ⟨by rfl, ?hy41⟩) (by assumption) ?hr41
                case hy41 => (intro w' hSw; (try dsimp only at hSw); go_simp; try with_reducible rfl)
                (try simp only [Act.put, List.setIfInBounds_toArray, List.set_cons_zero, List.set_cons_succ])
                refine wpAnyH_take (i := 22) (v := ?v42) rfl (by kernel_rfl) (by kernel_rfl) (by kernel_rfl) (fun _ _ _ h => h) (Or.inl ⟨by rfl, ?hy42⟩) (by assumption) ?hr42
                case hy42 => (intro w' hSw; (try dsimp only at hSw); go_simp; try with_reducible rfl)
                (try simp only [Act.put, List.setIfInBounds_toArray, List.set_cons_zero, List.set_cons_succ])
                refine wpAnyH_done (by kernel_rfl) ?_ _
                intro K hK
                go_simp
                refine hK _ _ ?_
                clear hK K
                have AP2 : Hid (ASt W (w7.setCell ⟨W.heap.size, 4, none⟩ (.slice A7 n7 c7)) tag key A7 n7 c7 (attrs.take (m + 1))) := Lib.hid (by rw [TK.out]; exact AP)
                generalize w7.setCell ⟨W.heap.size, 4, none⟩ (.slice A7 n7 c7) = w9 at AP2 ⊢
                clear AP e7 f7 B7 G7
                go_wp2_with fail
                go_roundw
                case rel => exact ⟨m + 1, A7, n7, c7, by omega, by rw [KM2.out]; go_num, AP2⟩
                case measure => (simp [intOf]; have := KM.out; omega)
              exact AllReadyH.nil
            exact AllReadyH.nil
          · obtain rfl : m = attrs.length := by omega
            have HAF : Hid (ASt W wr tag key A n0 c0 attrs) := Lib.hid (by have := HA.out; rwa [List.take_length] at this)
            have BW : Hid (Below w.heap.size w wr) := Lib.hid (HB.out.trans (HA.out.hb.mono hsz))
            clear HA
            by_cases hkn : k < n
            · have hkl : k < l.length := by have := KL.out; omega
              have HTF : Hid (tellsO l[k].op = false) := Lib.hid (by
                have := NAT.out (by omega)
                have e : l[i + 1 + attrs.length]'(by omega) = l[k] := by congr 1
                rwa [e] at this)
              obtain ⟨k0, k1, k2⟩ := GK0.out hkl wr BW.out
              clear GK0 hk
              generalize l[k] = xk at k0 k1 k2 HTF
              obtain ⟨ko, ka, kb⟩ := xk
              simp only at k0 k1 k2 HTF
              go_wp2_with fail
              refine (tellsO_any ko wr).mono ?_
              rintro e w' ⟨rfl, rfl⟩
              rw [HTF.out]
              have OE := open_ends (attrs := attrs) hmay hk0
              have CE : Hid (Calls Try.prog 23 #[.slice (some ⟨b, o, none⟩) n c, .int .i64 i] wr fun e w' => e = .returned (.int .i64 ((i + (backW (PW.mk 1 tag key z0 attrs kids)).length - 1 : Nat) : Int)) ∧ wr = w') := Lib.hid (by
                have hil2 : i < l.length := by have := KL.out; omega
                exact rend_open l _ n c i (backW (PW.mk 1 tag key z0 attrs kids)) wr ((KH.out.below BW.out (Nat.le_refl _)).more BW.out.size) KL.out hl (fun _ => by rw [FST.out _ _ hbk]) (by have := LEN.out; omega) (by have := ATL.out; omega) (fun x h h' => by
                  have h3 : x < (backW (PW.mk 1 tag key z0 attrs kids) ++ post).length := by rw [List.length_append]; omega
                  have h4 := at_pre SPL.out (i := x) (by rw [HI0.out]; exact h) h3
                  have h5 : l[i + x] = l[(backL (ws.take j)).length + x]'(by rw [HI0.out]; exact h) := by congr 1; rw [HI0.out]
                  rw [h5, h4, List.getElem_append_left h']) OE.1 OE.2)
              obtain ⟨g0, g1, g2⟩ := G.out wr BW.out
              (try simp only at g0 g1 g2)
              have BL : Hid ((backW (PW.mk 1 tag key z0 attrs kids)).length = attrs.length + (backL kids).length + 2) := Lib.hid (by rw [hbk]; simp only [List.length_cons, List.length_append, List.length_map, List.length_nil]; omega)
              have LAST : Hid (i + (backW (PW.mk 1 tag key z0 attrs kids)).length - 1 + 1 = (backL (ws.take (j + 1))).length) := Lib.hid (by rw [NXT.out, List.length_append, HI0.out]; have := ATL.out; omega)
              obtain ⟨nk0, hnk0⟩ : ∃ x, (backL kids).length = x := ⟨_, rfl⟩
              have KHK : Hid (∀ w9, Below w.heap.size w w9 → kX.Holds w9 w9.heap.size (some ⟨b, o + k * 3, none⟩) (backL kids)) := Lib.hid (fun w9 h9 => by
                have h1 : l = (backL (ws.take j) ++ (⟨1, tag, key⟩ :: attrs.map atI)) ++ (backL kids ++ (⟨2, z0, z0⟩ :: post)) := by rw [SPL.out, hbk]; simp only [List.append_assoc, List.cons_append, List.nil_append]
                have h2 : (backL (ws.take j) ++ (⟨1, tag, key⟩ :: attrs.map atI)).length = k := by simp only [List.length_append, List.length_cons, List.length_map, HI0.out]; have := KM.out; omega
                have h3 : backL kids = (l.drop k).take (backL kids).length := by rw [h1, ← h2, List.drop_left, List.take_left]
                rw [h3]
                have := (KH.out.on h9).drop k
                exact this.take _)
              have hknk : k + nk0 < n := by have := LEN.out; have := BL.out; have := KM.out; omega
              have CK : Hid (∀ w9, Below w.heap.size w w9 → Calls Try.prog 10 #[.slice (some ⟨b, o + k * 3, none⟩) nk0 (c - k)] w9 (Wv kQ w9 kids)) := Lib.hid (fun w9 h9 => HI.out nk0 (by omega) kids (backL kids) _ nk0 (c - k) w9 hk0 rfl hnk0 (Nat.le_refl _) (KHK.out w9 h9) (by omega) (by have := KC.out; omega) (by omega))
              have hla : i + (backW (PW.mk 1 tag key z0 attrs kids)).length - 1 = k + nk0 := by have := BL.out; have := KM.out; omega
              rw [hla] at CE LAST
              clear hla OE hnk0
              generalize hla : k + nk0 = la at CE LAST hknk
              have HLA := Lib.hid hla
              have hila : i ≤ la := by have := KM.out; omega
              have i1 : (k : Int) ≤ (la : Int) := by omega
              have i2 : (la : Int) ≤ (c : Int) := by omega
              have i3 : ((la : Int) - (k : Int)) = (nk0 : Int) := by omega
              have i4 : ((c : Int) - (k : Int)) = ((c - k : Nat) : Int) := by omega
              have i5 : la - k = nk0 := by omega
              clear hla
              go_wp2_with fail
              refine CE.out.mono ?_
              rintro e w' ⟨rfl, rfl⟩
              go_wp2_with fail
              refine (CK.out wr BW.out).mono ?_
              rintro e w5 ⟨Ak, nk, ck, ks, rfl, her, own5, new5, b5⟩
              have KD := HAF.out.kids (Ak := Ak) (nk := nk) (ck := ck) b5
              have hltr := heap_lt HAF.out.tq
              have tq5 := (b5.block _ hltr).trans HAF.out.tq
              have c5 : w5.cell? ⟨W.heap.size, 5, none⟩ = some (.slice none 0 0) := TQ.c5 tq5
              have f5 : w5.frozen? ⟨W.heap.size, 5, none⟩ = false := TQ.fr tq5 5
              have B6 : Hid (Below w.heap.size w (w5.setCell ⟨W.heap.size, 5, none⟩ (.slice Ak nk ck))) := Lib.hid (HB.out.trans (KD.2.2.mono hsz))
              have O6 := Lib.hid (HO.out.below KD.2.2 (Nat.le_refl _))
              have T6 : Hid (∀ t ∈ us, WNew kQ (w5.setCell ⟨W.heap.size, 5, none⟩ (.slice Ak nk ck)) (fun b => w.heap.size ≤ b ∧ (Value.slice A' n' c').ownBlock ≠ some b) t) := Lib.hid (fun t ht => (HT.out t ht).later KD.2.2)
              have TQ6 := Lib.hid KD.1
              have NEWW : Hid (WNew kQ (w5.setCell ⟨W.heap.size, 5, none⟩ (.slice Ak nk ck)) (fun b => w.heap.size ≤ b ∧ (Value.slice A' n' c').ownBlock ≠ some b) (.mk 1 tag key zB ⟨A, n0, c0⟩ attrs ⟨Ak, nk, ck⟩ ks)) := Lib.hid (by
                obtain ⟨s, hv, ha⟩ := AOk.own KD.2.1
                have e : s = ⟨A, n0, c0⟩ := by
                  obtain ⟨As, ns, cs⟩ := s
                  unfold Sv.val at hv
                  injection hv with e1 e2 e3
                  subst e1; subst e2; subst e3
                  rfl
                subst e
                refine WNew.mk (sk := ⟨Ak, nk, ck⟩) ha ((own_set5 own5 hltr 5).base_le (Nat.zero_le _)) (fun b hb => ⟨by have := (own5.lt hb).1; omega, fun e => by have := (own5.lt hb).1; have := (HO.out.lt e).2; omega⟩) (fun t ht => ?_)
                exact (new_set5 (new5 t ht) (fun b hq => by have := hq.1; omega) ⟨_, tq5⟩ 5).mono fun b _ hq => ⟨by have := hq.1; omega, fun e => by have := hq.1; have := (HO.out.lt e).2; omega⟩)
              have HER := Lib.hid her
              have G6 := Lib.hid (fun (_ : True) => G.out _ B6.out)
              clear own5 new5 b5 KD her tq5
              go_upto_region 22 with fail
              generalize w5.setCell ⟨W.heap.size, 5, none⟩ (.slice Ak nk ck) = w6 at B6 O6 T6 TQ6 NEWW ⊢
              clear G6 c5 f5
              have t0 := TQ6.out.c0; have t1 := TQ6.out.c1; have t2 := TQ6.out.c2; have t3 := TQ6.out.c3; have t4 := TQ6.out.c4; have t5 := TQ6.out.c5
              have hszr := B6.out.size
              go_wp2_with (at_builtin; refine kQ.wp_app rfl _ _ rfl (v := .slice A' n' c') (l := us) (m := [.mk 1 tag key zB ⟨A, n0, c0⟩ attrs ⟨Ak, nk, ck⟩ ks]) (B := w.heap.size) rfl (O6.out.alloc _) rfl rfl (fun e => by cases e) (Kind.Holds.lit (heap_alloc_new _ _) rfl) (by have := HUL.out; simp; omega) (by simp; omega) ?_; intro v' w4 hown' hgrow hat)
              obtain ⟨A4, n4, c4, rfl, e1, e2, e3, e4, e5⟩ := hown'.slice
              have LG := wants_grew (K := kQ) (by decide) O6.out T6.out NEWW.out hgrow hat
              have B4 : Hid (Below w.heap.size w w4) := Lib.hid (B6.out.trans (LG.2.to_below (fun i _ hi => (O6.out.lt hi).1) hszr))
              have REL : Hid (OfRel w ws (.slice A4 n4 c4) (.int .i64 ((la + 1 : Nat) : Int)) w4) := Lib.hid ⟨j + 1, A4, n4, c4, _, by omega, by rw [LAST.out], rfl, Lib.hid (by rw [erL_append, HU.out, HTK.out, ← HER.out]; congr 1), Lib.hid hown', Lib.hid LG.1, B4⟩
              clear LG hown' hgrow hat e1 e2 e3 e4 e5
              go_wp2_with fail
              go_roundw
              case rel => exact REL.out
              case measure => (simp [intOf]; omega)
            · exfalso
              have := LEN.out
              have := ATL.out
              have := KM.out
              omega
    · obtain rfl : j = ws.length := by omega
      have HE : Hid ((backL (ws.take ws.length)).length = n) := Lib.hid (by rw [List.take_length, ← HLW.out, KL.out])
      rw [HE.out]
      go_wp2_with fail
      go_ret
      exact ⟨A', n', c', us, rfl, by rw [HU.out, List.take_length], HO.out, HT.out, HB.out⟩
theorem rof14_any (N : Nat) : OfC N := by
  induction N using Nat.strongRecOn with
  | ind N ih => exact rof14_of N ih
end Go.Proofs.Ytgpbgimobcdogaa.P14
