/- slices.Index, slices.Delete of one integer, slices.Clone of integers and of attributes, dom.without. -/
import Derived.Test.YtihjdmdafiifhaaGreatM7
set_option linter.unusedVariables false
set_option linter.unusedSimpArgs false
set_option linter.unusedVariables false
set_option linter.unusedSimpArgs false
namespace Go.Proofs.YtihjdmdafiifhaaGreat.P5
open Go.RowKit Kd P4

/-! ### Index -/
def idxA : List Int → Int → Nat
  | [], _ => 0
  | a :: r, t => if t = a then 0 else idxA r t + 1
theorem idxA_le (l : List Int) (t : Int) : idxA l t ≤ l.length := by
  induction l with
  | nil => simp [idxA]
  | cons a r ih => simp only [idxA, List.length_cons]; split <;> omega
theorem idxA_of : ∀ {l : List Int} {t : Int} {k : Nat} (hk : k < l.length), l[k] = t → (∀ j (h : j < l.length), j < k → l[j] ≠ t) → idxA l t = k
  | [], _, _, hk, _, _ => absurd hk (by simp)
  | a :: r, t, 0, _, h, _ => by simp only [List.getElem_cons_zero] at h; simp [idxA, h]
  | a :: r, t, k + 1, hk, h, hj => by
    have h0 := hj 0 (by simp) (by omega)
    simp only [List.getElem_cons_zero] at h0
    rw [idxA, if_neg (fun e => h0 e.symm), idxA_of (k := k) (by simpa using hk) (by simpa using h) (fun j h1 h2 => by have := hj (j + 1) (by simpa using h1) (by omega); rwa [List.getElem_cons_succ] at this)]
theorem idxA_lt {l : List Int} {t : Int} (h : t ∈ l) : idxA l t < l.length := by
  induction l with
  | nil => simp at h
  | cons a r ih =>
    simp only [idxA, List.length_cons]
    split
    · omega
    · rename_i e
      have := ih ((List.mem_cons.1 h).resolve_left e)
      omega
theorem cell_int {w : World} {B : Nat} {A : Option Addr} {l : List Int} (h : kI.Holds w B A l) {k : Nat} (hk : k < l.length) : ∃ b o, A = some ⟨b, o, none⟩ ∧ b < B ∧ w.cell? ⟨b, o + k, none⟩ = some (.int .i64 l[k]) := by
  obtain ⟨b, o, hA, hb, hc⟩ := h.at hk
  refine ⟨b, o, hA, hb, ?_⟩
  have := hc 0 _ rfl
  rw [show k * kI.size + 0 = k from Nat.mul_one k] at this
  exact this

set_option maxHeartbeats 400000 in
theorem index_any (l : List Int) (t : Int) (A : Option Addr) (n c : Nat) (w : World) (hn : l.length = n) (hn2 : n ≤ 1000000) (ht : t ∈ l) (H : kI.Holds w w.heap.size A l) :
    Calls Tryz.prog 23 #[.slice A n c, .int .i64 t] w fun e w' => e = .returned (.int .i64 (idxA l t)) ∧ w = w' := by
  have HH := Lib.hid H
  have HN := Lib.hid hn
  have HT := Lib.hid ht
  clear H hn ht
  go_enter Tryz.func23, Tryz.ntmps23
  go_wp2_with fail
  go_loop [8] (fun i => ∃ k : Nat, k ≤ n ∧ i = .int .i64 k ∧ Hid (∀ j (h : j < l.length), j < k → l[j] ≠ t)) (fun i => n - (intOf i).toNat)
  case atStart => exact ⟨0, by omega, rfl, Lib.hid (fun j _ h => by omega)⟩
  case round =>
    obtain ⟨k, hk, rfl, HJ⟩ := hrel
    by_cases hlt : k < n
    · have hkl : k < l.length := by have := HN.out; omega
      obtain ⟨b, o, rfl, hb, hc⟩ := cell_int HH.out hkl
      by_cases he : t = l[k]
      · have hq : (t == l[k]) = true := beq_iff_eq.2 he
        have HE := Lib.hid he
        clear he
        go_wp2
        go_ret
        exact ⟨ret_int (by rw [idxA_of hkl HE.out.symm HJ.out]), rfl⟩
      · have hq : (t == l[k]) = false := beq_eq_false_iff_ne.2 he
        have HE := Lib.hid he
        clear he
        go_wp2
        go_round
        case rel =>
          refine ⟨k + 1, by omega, by go_num, Lib.hid (fun j hj hjk => ?_)⟩
          by_cases e : j = k
          · subst e; exact fun e2 => HE.out e2.symm
          · exact HJ.out j hj (by omega)
        case measure => simp [intOf]; omega
    · exfalso
      obtain ⟨j, hj, e⟩ := List.mem_iff_getElem.1 HT.out
      exact HJ.out j hj (by have := HN.out; omega) e

/-! ### Delete -/
theorem clearInt (w : World) (ty : TypeId) (b o c : Nat) (hc : (w.cell? ⟨b, o, none⟩).isSome = true) (hf : w.frozen? ⟨b, o, none⟩ = false) :
    (Builtin.clear_ #[23] ty #[.slice (some ⟨b, o, none⟩) 1 c]).run Tryz.prog w = .ok (.tuple #[]) (w.setCells b o [.int .i64 0]) := by
  have hst := run_storeCells_cells (P := Tryz.prog) b o [.int .i64 0] 0 w (by intro j hj; simp at hj; subst hj; simpa using hc) (by intro j hj; simp at hj; subst hj; simpa using hf) (by simp [Value.oneCell'])
  simp only [Nat.add_zero] at hst
  have hz : (Builtin.zeroCells (Value.int .i64 0).cells 1).toList = [.int .i64 0] := by
    simp [Builtin.zeroCells, Value.cells, Array.range]
  simp [Builtin.clear_, run_underlying Tryz.underlying23, hz, hst]

set_option maxHeartbeats 1000000 in
theorem deleteInt_any (g i r c : Nat) {B : Nat} {l : List Int} (w : World) (hl : l.length = i + 1 + r) (hl2 : i + 1 + r ≤ 1000000) (h : kI.Own w B (.slice (some ⟨g, 0, none⟩) (i + 1 + r) c) l) :
    Calls Tryz.prog 24 #[.slice (some ⟨g, 0, none⟩) (i + 1 + r) c, .int .i64 i, .int .i64 ((i : Int) + 1)] w fun e w' =>
      e = .returned (.slice (some ⟨g, 0, none⟩) (i + r) c) ∧ kI.Own w' B (.slice (some ⟨g, 0, none⟩) (i + r) c) (l.eraseIdx i) ∧ But (fun k => k = g) w w' := by
  obtain ⟨i0, hi0, hz0, hz1, hz2⟩ := info_parts infoI
  rcases h.form with ⟨hv, _⟩ | ⟨g', c', cur, hv, _, hBg, hlt, hh, hnc, hcm, hcs, ht⟩
  · cases hv
  injection hv with e1 e2 e3
  injection e1 with e1
  injection e1 with e1
  subst e1; subst e3
  clear e2
  rw [hl] at hnc ht
  have hcs : cur.size = c * 1 := hcs
  have ht : cur.toList.take ((i + 1 + r) * 1) = kI.cells l := ht
  obtain ⟨news, hnews⟩ : ∃ news, news = kI.cells (l.drop (i + 1)) := ⟨_, rfl⟩
  have hnl : news.length = r := by rw [hnews, Kind.cells_len, List.length_drop, hl]; show (i + 1 + r - (i + 1)) * 1 = r; omega
  have hnd : news = (kI.cells l).drop ((i + 1) * 1) := by rw [hnews, Kind.cells_drop]; rfl
  have cell : ∀ k, w.drew.cell? ⟨g, k, none⟩ = cur[k]? := fun k => cell_of_row w.drew g k _ _ (0, 0) hh
  have s1 : Hid (news.length = r * 1) := by show news.length = r * 1; omega
  have s2 : Hid (∀ u ∈ news, u.oneCell' = true) := by intro u hu; rw [hnews] at hu; exact Kind.cells_one _ _ u hu
  have s3 : Hid (∀ t, t < news.length → (w.drew.cell? ⟨g, 0 + i * 1 + t, none⟩).isSome = true ∧ w.drew.frozen? ⟨g, 0 + i * 1 + t, none⟩ = false) := by
    intro t htl
    refine ⟨by rw [cell, Array.getElem?_eq_getElem (by omega)]; rfl, ?_⟩
    have hh' : w.drew.heap[g]? = some (.cells cur kI.e (0, 0)) := hh
    simp [World.frozen?, hh']
  have hsrc : ∀ t u, news[t]? = some u → w.drew.cell? ⟨g, i + 1 + t, none⟩ = some u := by
    intro t u hu
    have htl := (List.getElem?_eq_some_iff.1 hu).1
    rw [cell, ← hu, hnd, List.getElem?_drop, ← ht, List.getElem?_take, if_pos (by omega), Array.getElem?_toList, Nat.mul_one]
  obtain ⟨A, hA, hS⟩ : ∃ A : Addr, (if c = i + 1 then (some (⟨g, 0, none⟩ : Addr)) else some ⟨g, i + 1, none⟩) = some A ∧ Hid (∀ t u, news[t]? = some u → w.drew.cell? (A.add t) = some u) := by
    by_cases hcj : c = i + 1
    · refine ⟨⟨g, 0, none⟩, if_pos hcj, fun t u hu => ?_⟩
      have htl := (List.getElem?_eq_some_iff.1 hu).1
      omega
    · refine ⟨⟨g, i + 1, none⟩, if_neg hcj, fun t u hu => ?_⟩
      rw [Addr.add_lit]
      exact hsrc t u hu
  obtain ⟨W1, hW1⟩ : ∃ W1, W1 = w.drew.setCells g (0 + i * 1) news := ⟨_, rfl⟩
  have hh' : w.drew.heap[g]? = some (.cells cur kI.e (0, 0)) := hh
  obtain ⟨c1, k1, k2, k3⟩ := heap_setCells g news (0 + i * 1) w.drew cur _ _ hh'
  rw [← hW1] at k1
  have hcl : ∀ ty q, (Builtin.clear_ #[23] ty #[.slice (some ⟨g, i + r, none⟩) (i + 1 + r - (i + r)) q]).run Tryz.prog W1 = .ok (.tuple #[]) (W1.setCells g (i + r) [.int .i64 0]) :=
    fun ty q => by
      rw [show i + 1 + r - (i + r) = 1 by omega]
      exact clearInt W1 ty g (i + r) q (by rw [cell_of_row W1 g _ _ _ (0, 0) k1, Array.getElem?_eq_getElem (by omega)]; rfl) (by simp [World.frozen?, k1])
  obtain ⟨c2, m1, m2, m3⟩ := heap_setCells g [.int .i64 0] (i + r) W1 c1 _ _ k1
  have hO : Hid (kI.Own (W1.setCells g (i + r) [.int .i64 0]) B (.slice (some ⟨g, 0, none⟩) (i + r) c) (l.eraseIdx i)) := by
    refine Kind.own_mk (by rw [List.length_eraseIdx_of_lt (by omega)]; omega) hBg m1 (by omega) hcm (by rw [m2, k2]; exact hcs) ?_
    have hr := del_row (s := 1) ht (by omega) hnd (zs := [.int .i64 0]) rfl k2 (fun k hk => by have := k3 k hk; rwa [Nat.zero_add] at this) m2 (by simpa using m3)
    rw [show kI.size = 1 from rfl, hr, eraseIdx_eq, Kind.cells_append, Kind.cells_take, ← hnews]
    rfl
  have hB : Hid (But (fun k => k = g) w (W1.setCells g (i + r) [.int .i64 0])) := by
    rw [hW1]
    exact But.setCells (S := fun k => k = g) (But.setCells (S := fun k => k = g) (But.drew (But.refl _ w)) (fun _ => rfl) _ _) (fun _ => rfl) _ _
  have hW : Hid (W1 = w.drew.setCells g (0 + i * 1) news) := hW1
  have hic : i ≤ c := by omega
  have hjc : i + 1 ≤ c := by omega
  have hne : ((i : Int) == (i : Int) + 1) = false := beq_eq_false_iff_ne.2 (by omega)
  unfold maxLen at hcm
  have hb0 : (0 : Int) ≤ (i : Int) + 1 := by omega
  have hb1 : (i : Int) + 1 ≤ (i : Int) + 1 + (r : Int) := by omega
  clear hW1 hh hh' hcs ht hnews hnl hnd cell hsrc k1 k2 k3 m1 m2 m3 h hl hz0 hz2
  go_enter Tryz.func24, Tryz.ntmps24
  go_wp2_with fail
  go_region_law (refine step_append_room rfl (.tmp 22) (.tmp 25) 23 rfl 3 i0 1 Tryz.underlying23 hi0 hz1 g 0 i c (by simp [Act.eval, Act.put]) A r (c - (i + 1)) news (by simp [Act.eval, Act.put]) s1.out hS.out s2.out (by omega) s3.out ?_; rw [← hW.out])
  go_wp2
  go_ret
  exact ⟨rfl, hO.out, hB.out⟩

theorem erase_less : ∀ {l : List Int} {t : Int}, l.Nodup → t ∈ l → l.eraseIdx (idxA l t) = less t l
  | [], _, _, h => absurd h (by simp)
  | a :: r, t, hn, h => by
    obtain ⟨h1, h2⟩ := List.nodup_cons.1 hn
    by_cases e : t = a
    · subst e
      simp only [idxA, if_true, List.eraseIdx_cons_zero, less]
      rw [List.filter_cons]
      simp only [ne_eq, not_true_eq_false, decide_false, Bool.false_eq_true, if_false]
      exact (List.filter_eq_self.2 (fun c hc => by simp; rintro rfl; exact h1 hc)).symm
    · have ih := erase_less h2 ((List.mem_cons.1 h).resolve_left e)
      rw [idxA, if_neg e, List.eraseIdx_cons_succ, ih]
      simp only [less]
      rw [List.filter_cons]
      simp [Ne.symm e]

/-! ### without -/
def Without (w : World) (B : Nat) (v : Value) (l : List Int) (t : Int) (e : Ending) (w' : World) : Prop :=
  ∃ A n c, e = .returned (.slice A n c) ∧ kI.Own w' B (.slice A n c) (less t l) ∧ But (fun k => v.ownBlock = some k) w w' ∧ (Value.slice A n c).ownBlock = v.ownBlock
set_option maxHeartbeats 400000 in
theorem without_any (l : List Int) (t : Int) {B : Nat} {v : Value} (w : World) (hn : l.length ≤ 1000000) (ht : t ∈ l) (hd : l.Nodup) (h : kI.Own w B v l) :
    Calls Tryz.prog 73 #[v, .int .i64 t] w (Without w B v l t) := by
  have hk := idxA_lt ht
  obtain ⟨g, c, rfl⟩ : ∃ g c, v = .slice (some ⟨g, 0, none⟩) l.length c := by
    rcases h.form with ⟨_, rfl⟩ | ⟨g, c, cur, rfl, _⟩
    · simp at ht
    · exact ⟨g, c, rfl⟩
  obtain ⟨k, hkk⟩ : ∃ k, k = idxA l t := ⟨_, rfl⟩
  rw [← hkk] at hk
  obtain ⟨r, hr⟩ : ∃ r, l.length = k + 1 + r := ⟨l.length - (k + 1), by omega⟩
  rw [hr] at h hn ⊢
  obtain ⟨A, n, c', hv, h1, h2, h3, h4, h5⟩ := h.slice
  injection hv with e1 e2 e3
  subst e1; subst e2; subst e3
  have H := Lib.hid h
  have HI := Lib.hid h5
  have HR := Lib.hid hr
  have HK := Lib.hid hkk
  have HT := Lib.hid ht
  have HD := Lib.hid hd
  clear h h1 h2 h3 h4 h5 hr hkk ht hd hk
  go_enter Tryz.func73, Tryz.ntmps73
  go_wp2_with fail
  refine (index_any l t _ (k + 1 + r) c w HR.out hn HT.out HI.out).mono ?_
  rintro e w' ⟨rfl, rfl⟩
  rw [← HK.out]
  go_wp2_with fail
  refine (deleteInt_any g k r c w HR.out hn H.out).mono ?_
  rintro e w2 ⟨rfl, o2, b2⟩
  have O2 := Lib.hid o2
  have B2 := Lib.hid b2
  clear o2 b2
  go_wp2_with fail
  go_ret
  refine ⟨some ⟨g, 0, none⟩, k + r, c, rfl, ?_, B2.out.mono (fun i _ hi => by subst hi; rfl), rfl⟩
  rw [← erase_less HD.out HT.out, ← HK.out]
  exact O2.out

/-! ### Clone -/
def Cloned {α : Type} (K : Kind Tryz.prog α) (w : World) (l : List α) (e : Ending) (w' : World) : Prop := ∃ A n c, e = .returned (.slice A n c) ∧ K.Own w' w.heap.size (.slice A n c) l ∧ Below w.heap.size w w'
set_option maxHeartbeats 400000 in
theorem cloneInt_any (l : List Int) (A : Option Addr) (n c : Nat) (w : World) (hn : l.length = n) (hn2 : n ≤ 1000000) (hz : A = none → c = 0 ∧ n = 0) (H : kI.Holds w w.heap.size A l) :
    Calls Tryz.prog 46 #[.slice A n c] w (Cloned kI w l) := by
  cases A with
  | none =>
    obtain ⟨rfl, rfl⟩ := hz rfl
    obtain rfl : l = [] := List.length_eq_zero_iff.1 hn
    clear H hn hz
    have hq := fun w' => Lib.run_eql_slice_nil (P := Tryz.prog) w' 23 3 Option.none 0 0 0 0 Tryz.underlying23
    go_enter Tryz.func46, Tryz.ntmps46
    go_wp2
    go_ret
    exact ⟨none, 0, 0, rfl, Kind.Own.nil _ _ _, Below.refl _ _⟩
  | some a =>
    have HM := Lib.hid hn
    have HH := Lib.hid H
    clear H hn hz
    have hq := fun w' => Lib.run_eql_slice_nil (P := Tryz.prog) w' 23 3 (some a) n c 0 0 Tryz.underlying23
    go_enter Tryz.func46, Tryz.ntmps46
    go_wp2_with (at_builtin; refine kI.wp_app rfl _ _ rfl (v := .slice (some ⟨w.heap.size, 0, Option.none⟩) 0 0) (l := []) (m := l) (B := w.heap.size) rfl (Kind.Own.made kI w _ (Nat.le_refl _)) rfl HM.out (fun e => by cases e) (HH.out.on ((Below.refl _ _).alloc (Nat.le_refl _) _)) (by simp; omega) (by simp) ?_; intro v' w2 hown hgrow hat)
    go_ret
    obtain ⟨A', n', c', rfl, _⟩ := hown.slice
    exact ⟨A', n', c', rfl, hown, ((Below.refl _ _).alloc (Nat.le_refl _) _).grown hgrow (by simp) (fun k hk => by simp [Value.ownBlock] at hk; omega)⟩
set_option maxHeartbeats 400000 in
theorem cloneAt_any (l : List P3.At) (A : Option Addr) (n c : Nat) (w : World) (hn : l.length = n) (hn2 : n ≤ 1000000) (hz : A = none → c = 0 ∧ n = 0) (H : kA.Holds w w.heap.size A l) :
    Calls Tryz.prog 45 #[.slice A n c] w (Cloned kA w l) := by
  cases A with
  | none =>
    obtain ⟨rfl, rfl⟩ := hz rfl
    obtain rfl : l = [] := List.length_eq_zero_iff.1 hn
    clear H hn hz
    have hq := fun w' => Lib.run_eql_slice_nil (P := Tryz.prog) w' 32 102 Option.none 0 0 0 0 Tryz.underlying32
    go_enter Tryz.func45, Tryz.ntmps45
    go_wp2
    go_ret
    exact ⟨none, 0, 0, rfl, Kind.Own.nil _ _ _, Below.refl _ _⟩
  | some a =>
    have HM := Lib.hid hn
    have HH := Lib.hid H
    clear H hn hz
    have hq := fun w' => Lib.run_eql_slice_nil (P := Tryz.prog) w' 32 102 (some a) n c 0 0 Tryz.underlying32
    go_enter Tryz.func45, Tryz.ntmps45
    go_wp2_with (at_builtin; refine kA.wp_app rfl _ _ rfl (v := .slice (some ⟨w.heap.size, 0, Option.none⟩) 0 0) (l := []) (m := l) (B := w.heap.size) rfl (Kind.Own.made kA w _ (Nat.le_refl _)) rfl HM.out (fun e => by cases e) (HH.out.on ((Below.refl _ _).alloc (Nat.le_refl _) _)) (by simp; omega) (by simp) ?_; intro v' w2 hown hgrow hat)
    go_ret
    obtain ⟨A', n', c', rfl, _⟩ := hown.slice
    exact ⟨A', n', c', rfl, hown, ((Below.refl _ _).alloc (Nat.le_refl _) _).grown hgrow (by simp) (fun k hk => by simp [Value.ownBlock] at hk; omega)⟩
end Go.Proofs.YtihjdmdafiifhaaGreat.P5
