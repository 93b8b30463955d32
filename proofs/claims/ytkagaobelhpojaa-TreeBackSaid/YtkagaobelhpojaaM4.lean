/- slices.Delete of one slot, slices.Clone of slots (of *placket/api.Node). -/
import Derived.Deep.RegionLaw
import Derived.Lib.SliceRun
import Derived.Deep.RegionHeld3
import Derived.Test.YtkagaobelhpojaaM3
set_option linter.unusedVariables false
set_option linter.unusedSimpArgs false
namespace Go.Proofs.Ytkagaobelhpojaa.P4
open Go.RowKit Kd

theorem zeroP (w : World) : (zeroValue 121).run Try.prog w = .ok (.agg #[.int .i64 0, (.pointer none)]) w := by kernel_rfl

/-- 'clear' of one slot -/
theorem clearP (w : World) (ty : TypeId) (b o c : Nat) (hc : ∀ j, j < 2 → (w.cell? ⟨b, o + j, none⟩).isSome = true) (hf : ∀ j, j < 2 → w.frozen? ⟨b, o + j, none⟩ = false) :
    (Builtin.clear_ #[112] ty #[.slice (some ⟨b, o, none⟩) 1 c]).run Try.prog w = .ok (.tuple #[]) (w.setCells b o [.int .i64 0, (.pointer none)]) := by
  have hst := run_storeCells_cells (P := Try.prog) b o [.int .i64 0, (.pointer none)] 0 w (by simpa using hc) (by simpa using hf) (by simp [Value.oneCell'])
  simp only [Nat.add_zero] at hst
  have hz : (Builtin.zeroCells (Value.agg #[.int .i64 0, (.pointer none)]).cells 1).toList = [.int .i64 0, (.pointer none)] := by
    simp [Builtin.zeroCells, Value.cells, Array.range]
  simp [Builtin.clear_, run_underlying Try.underlying112, hz, hst]

/-- the block behind a delete: what stood ahead, what stood behind -/
theorem del_row {cur c1 c2 : Array Value} {xs news zs : List Value} {a m s : Nat} (h : cur.toList.take ((a + 1 + m) * s) = xs) (hs : (a + 1 + m) * s ≤ cur.size) (hn : news = xs.drop ((a + 1) * s)) (hz : zs.length = s)
    (e1 : c1.size = cur.size) (h1 : ∀ k, k < cur.size → c1[k]? = if a * s ≤ k ∧ k < a * s + news.length then news[k - a * s]? else cur[k]?)
    (e2 : c2.size = c1.size) (h2 : ∀ k, k < c1.size → c2[k]? = if (a + m) * s ≤ k ∧ k < (a + m) * s + zs.length then zs[k - (a + m) * s]? else c1[k]?) :
    c2.toList.take ((a + m) * s) = xs.take (a * s) ++ news := by
  have d1 : (a + 1 + m) * s = a * s + s + m * s := by rw [Nat.add_mul, Nat.add_mul, Nat.one_mul]
  have d2 : (a + m) * s = a * s + m * s := Nat.add_mul _ _ _
  have d3 : (a + 1) * s = a * s + s := by rw [Nat.add_mul, Nat.one_mul]
  have hxl : xs.length = a * s + s + m * s := by rw [← h, List.length_take, Array.length_toList]; omega
  have hnl : news.length = m * s := by rw [hn, List.length_drop]; omega
  have hx : ∀ k, k < xs.length → xs[k]? = cur[k]? := by
    intro k hk
    rw [← h, List.getElem?_take, if_pos (by omega), Array.getElem?_toList]
  apply List.ext_getElem?
  intro k
  rw [List.getElem?_take]
  by_cases hk : k < (a + m) * s
  · rw [if_pos hk, Array.getElem?_toList, h2 k (by omega), if_neg (by omega), h1 k (by omega)]
    by_cases hka : k < a * s
    · rw [if_neg (by omega), List.getElem?_append_left (by rw [List.length_take]; omega), List.getElem?_take, if_pos hka, hx k (by omega)]
    · have hta : (xs.take (a * s)).length = a * s := by rw [List.length_take]; omega
      rw [if_pos (by omega), List.getElem?_append_right (by omega), hta]
  · rw [if_neg hk, List.getElem?_eq_none]
    rw [List.length_append, List.length_take]
    omega

set_option maxHeartbeats 1000000 in
theorem deleteP_any (g i r c : Nat) {B : Nat} {l : List (Sl Nat)} (w : World) (hl : l.length = i + 1 + r) (hl2 : i + 1 + r ≤ 1000000) (h : kSP.Own w B (.slice (some ⟨g, 0, none⟩) (i + 1 + r) c) l) :
    Calls Try.prog 123 #[.slice (some ⟨g, 0, none⟩) (i + 1 + r) c, .int .i64 i, .int .i64 ((i : Int) + 1)] w fun e w' =>
      e = .returned (.slice (some ⟨g, 0, none⟩) (i + r) c) ∧ kSP.Own w' B (.slice (some ⟨g, 0, none⟩) (i + r) c) (l.eraseIdx i) ∧ But (fun k => k = g) w w' := by
  obtain ⟨i0, hi0, hz0, hz1, hz2⟩ := info_parts infoSP
  rcases h.form with ⟨hv, _⟩ | ⟨g', c', cur, hv, _, hBg, hlt, hh, hnc, hcm, hcs, ht⟩
  · cases hv
  injection hv with e1 e2 e3
  injection e1 with e1
  injection e1 with e1
  subst e1; subst e3
  clear e2
  rw [hl] at hnc ht
  have hcs : cur.size = c * 2 := hcs
  have ht : cur.toList.take ((i + 1 + r) * 2) = kSP.cells l := ht
  obtain ⟨news, hnews⟩ : ∃ news, news = kSP.cells (l.drop (i + 1)) := ⟨_, rfl⟩
  have hnl : news.length = r * 2 := by rw [hnews, Kind.cells_len, List.length_drop, hl]; show (i + 1 + r - (i + 1)) * 2 = r * 2; omega
  have hnd : news = (kSP.cells l).drop ((i + 1) * 2) := by rw [hnews, Kind.cells_drop]; rfl
  have cell : ∀ k, w.drew.cell? ⟨g, k, none⟩ = cur[k]? := fun k => cell_of_row w.drew g k _ _ (0, 0) hh
  have s1 : Hid (news.length = r * 2) := hnl
  have s2 : Hid (∀ u ∈ news, u.oneCell' = true) := by intro u hu; rw [hnews] at hu; exact Kind.cells_one _ _ u hu
  have s3 : Hid (∀ t, t < news.length → (w.drew.cell? ⟨g, 0 + i * 2 + t, none⟩).isSome = true ∧ w.drew.frozen? ⟨g, 0 + i * 2 + t, none⟩ = false) := by
    intro t htl
    refine ⟨by rw [cell, Array.getElem?_eq_getElem (by omega)]; rfl, ?_⟩
    have hh' : w.drew.heap[g]? = some (.cells cur kSP.e (0, 0)) := hh
    simp [World.frozen?, hh']
  have hsrc : ∀ t u, news[t]? = some u → w.drew.cell? ⟨g, (i + 1) * 2 + t, none⟩ = some u := by
    intro t u hu
    have htl := (List.getElem?_eq_some_iff.1 hu).1
    rw [cell, ← hu, hnd, List.getElem?_drop, ← ht, List.getElem?_take, if_pos (by omega), Array.getElem?_toList]
  obtain ⟨A, hA, hS⟩ : ∃ A : Addr, (if c = i + 1 then (some (⟨g, 0, none⟩ : Addr)) else some ⟨g, (i + 1) * 2, none⟩) = some A ∧ Hid (∀ t u, news[t]? = some u → w.drew.cell? (A.add t) = some u) := by
    by_cases hcj : c = i + 1
    · refine ⟨⟨g, 0, none⟩, if_pos hcj, fun t u hu => ?_⟩
      have htl := (List.getElem?_eq_some_iff.1 hu).1
      omega
    · refine ⟨⟨g, (i + 1) * 2, none⟩, if_neg hcj, fun t u hu => ?_⟩
      rw [Addr.add_lit]
      exact hsrc t u hu
  obtain ⟨W1, hW1⟩ : ∃ W1, W1 = w.drew.setCells g (0 + i * 2) news := ⟨_, rfl⟩
  have hh' : w.drew.heap[g]? = some (.cells cur kSP.e (0, 0)) := hh
  obtain ⟨c1, k1, k2, k3⟩ := heap_setCells g news (0 + i * 2) w.drew cur _ _ hh'
  rw [← hW1] at k1
  have hcl : ∀ ty q, (Builtin.clear_ #[112] ty #[.slice (some ⟨g, (i + r) * 2, none⟩) (i + 1 + r - (i + r)) q]).run Try.prog W1 = .ok (.tuple #[]) (W1.setCells g ((i + r) * 2) [.int .i64 0, (.pointer none)]) :=
    fun ty q => by
      rw [show i + 1 + r - (i + r) = 1 by omega]
      exact clearP W1 ty g ((i + r) * 2) q (fun j hj => by rw [cell_of_row W1 g _ _ _ (0, 0) k1, Array.getElem?_eq_getElem (by omega)]; rfl) (fun j _ => by simp [World.frozen?, k1])
  obtain ⟨c2, m1, m2, m3⟩ := heap_setCells g [.int .i64 0, (.pointer none)] ((i + r) * 2) W1 c1 _ _ k1
  have hO : Hid (kSP.Own (W1.setCells g ((i + r) * 2) [.int .i64 0, (.pointer none)]) B (.slice (some ⟨g, 0, none⟩) (i + r) c) (l.eraseIdx i)) := by
    refine Kind.own_mk (by rw [List.length_eraseIdx_of_lt (by omega)]; omega) hBg m1 (by omega) hcm (by rw [m2, k2]; exact hcs) ?_
    have hr := del_row (s := 2) ht (by omega) hnd (zs := [.int .i64 0, (.pointer none)]) rfl k2 (fun k hk => by have := k3 k hk; rwa [Nat.zero_add] at this) m2 m3
    rw [show kSP.size = 2 from rfl, hr, eraseIdx_eq, Kind.cells_append, Kind.cells_take, ← hnews]
    rfl
  have hB : Hid (But (fun k => k = g) w (W1.setCells g ((i + r) * 2) [.int .i64 0, (.pointer none)])) := by
    rw [hW1]
    exact But.setCells (S := fun k => k = g) (But.setCells (S := fun k => k = g) (But.drew (But.refl _ w)) (fun _ => rfl) _ _) (fun _ => rfl) _ _
  have hW : Hid (W1 = w.drew.setCells g (0 + i * 2) news) := hW1
  have hic : i ≤ c := by omega
  have hjc : i + 1 ≤ c := by omega
  have hne : ((i : Int) == (i : Int) + 1) = false := beq_eq_false_iff_ne.2 (by omega)
  unfold maxLen at hcm
  have hb0 : (0 : Int) ≤ (i : Int) + 1 := by omega
  have hb1 : (i : Int) + 1 ≤ (i : Int) + 1 + (r : Int) := by omega
  clear hW1 hh hh' hcs ht hnews hnl hnd cell hsrc k1 k2 k3 m1 m2 m3 h hl hz0 hz2
  go_enter Try.func123, Try.ntmps123
  go_wp2_with fail
  go_region_law (refine step_append_room rfl (.tmp 22) (.tmp 25) 112 rfl 121 i0 2 Try.underlying112 hi0 hz1 g 0 i c (by simp [Act.eval, Act.put]) A r (c - (i + 1)) news (by simp [Act.eval, Act.put]) s1.out hS.out s2.out (by omega) s3.out ?_; rw [← hW.out])
  go_wp2
  go_ret
  exact ⟨rfl, hO.out, hB.out⟩
end Go.Proofs.Ytkagaobelhpojaa.P4

/- What an arena's calls answer (of *placket/api.Node), and what they leave. -/
namespace Go.Proofs.Ytkagaobelhpojaa.P4
open Go.RowKit Kd

/-! ### New -/
def NewP (w : World) (R : Nat) (e : Ending) (w' : World) : Prop :=
  ∃ p : Nat, e = .returned (.tuple #[.pointer (some ⟨p, 0, none⟩), .nilIface]) ∧ ArP w' w.heap.size p R 0 (.slice none 0 0) [] ∧ Below w.heap.size w w'
set_option maxHeartbeats 400000 in
theorem newP_no (r : Int) (w : World) (h : r < 1 ∨ 200 < r) : Calls Try.prog 42 #[.int .i64 r] w fun e w' =>
    e = .returned (.tuple #[.pointer none, .iface 29 (.int .i64 1)]) ∧ w = w' := by
  by_cases h1 : r < 1
  · go_enter Try.func42, Try.ntmps42
    go_wp2
    go_ret2
    exact ⟨rfl, rfl⟩
  · have h2 : 200 < r := by omega
    go_enter Try.func42, Try.ntmps42
    go_wp2
    go_ret2
    exact ⟨rfl, rfl⟩
set_option maxHeartbeats 400000 in
theorem newP_yes (r : Int) (w : World) (h1 : 1 ≤ r) (h2 : r ≤ 200) : Calls Try.prog 42 #[.int .i64 r] w (NewP w r.toNat) := by
  obtain ⟨R, rfl⟩ := Int.eq_ofNat_of_zero_le (show 0 ≤ r by omega)
  have h3 : ¬ (R : Int) < 1 := by omega
  have h4 : ¬ 200 < (R : Int) := by omega
  have h5 : R ≤ 200 := by omega
  go_enter Try.func42, Try.ntmps42
  go_wp2
  go_ret2
  exact ⟨_, rfl, ⟨heap_alloc_new w _, Kind.Own.nil _ _ _, Nat.le_refl _, asc_nil, by omega, by simp, h5⟩, (Below.refl _ _).alloc (Nat.le_refl _) _⟩

/-! ### Live, Next, Room -/
section
variable {B p R : Nat} {n : Int} {v : Value} {l : List (Sl Nat)}
theorem liveP_any {m : Nat} (w : World) (hm : l.length = m) (h : ArP w B p R n v l) : Calls Try.prog 79 #[.pointer (some ⟨p, 0, none⟩)] w fun e w' => e = .returned (.int .i64 m) ∧ w = w' := by
  obtain ⟨A, k, c, rfl, hk, hkc, hcm, hz, hh⟩ := h.own.slice
  obtain rfl : k = m := by omega
  have c2 := h.c2
  have hk2 : k ≤ 1000000 := by have := h.len; have := h.room; omega
  clear hh hz hcm hkc h hk hm
  go_enter Try.func79, Try.ntmps79
  go_wp2
  go_ret
  exact ⟨rfl, rfl⟩
theorem nextP_any {m : Int} (w : World) (hn : n ≤ 100000) (hm : m = n + 1) (h : ArP w B p R n v l) : Calls Try.prog 58 #[.pointer (some ⟨p, 0, none⟩)] w fun e w' => e = .returned (.int .i64 m) ∧ w = w' := by
  subst hm
  have c1 := h.c1
  have hp := h.pos
  clear h
  go_enter Try.func58, Try.ntmps58
  go_wp2_with fail
  refine (load_any _ _ _ _ c1).mono ?_
  rintro e w' ⟨rfl, rfl⟩
  go_wp2
  go_ret
  exact ⟨rfl, rfl⟩
theorem roomP_any (w : World) (h : ArP w B p R n v l) : Calls Try.prog 78 #[.pointer (some ⟨p, 0, none⟩)] w fun e w' => e = .returned (.int .i64 R) ∧ w = w' := by
  have c0 := h.c0
  clear h
  go_enter Try.func78, Try.ntmps78
  go_wp2
  go_ret
  exact ⟨rfl, rfl⟩

/-! ### Put -/
def PutP (w : World) (B p R : Nat) (n : Int) (v : Value) (l : List (Sl Nat)) (x : Nat) (e : Ending) (w' : World) : Prop :=
  e = .returned (.tuple #[.int .i64 (n + 1), .nilIface]) ∧ ∃ v', ArP w' B p R (n + 1) v' (l ++ [⟨n + 1, x⟩]) ∧ But (Arm p v) w w' ∧ ∀ g, v'.ownBlock = some g → v.ownBlock = some g ∨ w.heap.size ≤ g
set_option maxHeartbeats 1000000 in
theorem putP_full (x : Nat) (w : World) (hl : l.length = R) (h : ArP w B p R n v l) : Calls Try.prog 80 #[.pointer (some ⟨p, 0, none⟩), (.pointer (some ⟨x, 0, none⟩))] w fun e w' =>
    e = .returned (.tuple #[.int .i64 0, .iface 29 (.int .i64 6)]) ∧ Below w.heap.size w w' := by
  obtain ⟨A, k, c, rfl, hk, hkc, hcm, hz, hh⟩ := h.own.slice
  have c0 := h.c0
  have c2 := h.c2
  have hk2 : R ≤ k := by omega
  have hR : R ≤ 200 := h.room
  clear hh hz hcm hkc h hk hl
  go_enter Try.func80, Try.ntmps80
  go_wp2_with fail
  go_quiet (fail)
  go_wp2_with fail
  go_ret2
  exact ⟨rfl, Below_drewN (Below.refl _ _) _⟩
set_option maxHeartbeats 1000000 in
theorem putP_yes (x : Nat) (w : World) (hl : l.length < R) (hn : n ≤ 100000) (h : ArP w B p R n v l) : Calls Try.prog 80 #[.pointer (some ⟨p, 0, none⟩), (.pointer (some ⟨x, 0, none⟩))] w (PutP w B p R n v l x) := by
  obtain ⟨A, k, c, rfl, hk, hkc, hcm, hz, hh⟩ := h.own.slice
  have c0 := h.c0
  have c1 := h.c1
  have c2 := h.c2
  have f1 := h.frozen 1
  have H := Lib.hid h
  have hp := h.pos
  have hk2 : k < R := by omega
  have hR : R ≤ 200 := h.room
  have hkl := Lib.hid hk
  clear hh hz hcm hkc h hk hl
  go_enter Try.func80, Try.ntmps80
  go_wp2_with fail
  go_quiet (fail)
  go_wp2_with fail
  refine (add_any _ _ _ _ hp (by omega) (by exact c1) (by exact f1)).mono ?_
  rintro e w1 ⟨rfl, hw1⟩
  have blk1 : w1.heap[p]? = some (.cells #[.int .i64 R, .int .i64 (n + 1), .slice A k c] 114 (0, 0)) := by
    rw [← hw1]
    exact heap_set (by exact H.out.blk) 1 _
  have BLK := Lib.hid blk1
  have OWN : Hid (kSP.Own w1 B (.slice A k c) l) := Lib.hid (H.out.own.keep fun g hg => by
    rw [← hw1]
    exact Below.heap_setCell _ _ _ _ (by rintro rfl; exact H.out.apart hg))
  have BUT : Hid (But (Arm p (.slice A k c)) w w1) := Lib.hid (by
    rw [← hw1]
    exact But.setCell (But.drewN (But.refl _ _) _) (fun _ => .inl rfl) _)
  have c2' : w1.cell? ⟨p, 2, none⟩ = some (.slice A k c) := cell_of_row w1 p 2 _ _ (0, 0) blk1
  have hBw : B ≤ w1.heap.size := by have := H.out.base; have := H.out.lt; have := BUT.out.size; omega
  clear hw1 blk1 c0 c1 c2 f1
  go_wp2_with (at_builtin; refine kSP.wp_app rfl _ _ rfl (v := .slice A k c) (l := l) (m := [⟨n + 1, x⟩]) (B := B) rfl (OWN.out.alloc _) rfl rfl (fun e => by cases e) (Kind.Holds.lit (heap_alloc_new _ _) rfl) (by have := hkl.out; simp; omega) (by simp; omega) ?_; intro v' w2 hown hgrow hat; have blk2 : Hid (w2.heap[p]? = some (.cells #[.int .i64 R, .int .i64 (n + 1), .slice A k c] 114 (0, 0))) := Lib.hid ((hgrow.block p (heap_lt (heap_up BLK.out)) (fun e => H.out.apart e.symm)).trans (heap_up BLK.out)); have d2 : w2.cell? ⟨p, 2, none⟩ = some (.slice A k c) := cell_of_row w2 p 2 _ _ (0, 0) blk2.out; have g2 : w2.frozen? ⟨p, 2, none⟩ = false := (by have hb := blk2.out; simp [World.frozen?, hb]); obtain ⟨A2, k2, c2, rfl, _, _, _, _, _⟩ := hown.slice; have OWN2 := Lib.hid hown; have GROW := Lib.hid hgrow; have HAT : Hid (∀ g, (Value.slice A2 k2 c2).ownBlock = some g → (Value.slice A k c).ownBlock = some g ∨ w.heap.size ≤ g) := Lib.hid (by intro g hg; rcases hat with e | e <;> rw [e] at hg; (exact .inl hg); (have := BUT.out.size; simp at hg; exact .inr (by omega))); clear hown hgrow hat)
  go_ret2
  have hap : Hid (∀ g, Value.ownBlock (.slice A2 k2 c2) = some g → g ≠ p) := Lib.hid fun g hg e => by
    subst e
    obtain ⟨d, hd⟩ := OWN2.out.ty hg
    exact heap_ne hd blk2.out (by decide) rfl
  refine ⟨rfl, _, ⟨heap_set blk2.out 2 _, OWN2.out.keep fun g hg => Below.heap_setCell _ _ _ _ (hap.out g hg), H.out.base, asc_put H.out.asc hp x, by omega, by have := hkl.out; simp; omega, hR⟩, ?_, HAT.out⟩
  exact But.setCell (But.trans (BUT.out.alloc _) (But.of_grown (S := Arm p (.slice A k c)) GROW.out (fun g hg _ => .inr hg)) (fun _ _ h => h)) (fun _ => .inl rfl) _
end
end Go.Proofs.Ytkagaobelhpojaa.P4

/- What an arena's Get, Set and Drop answer (of *placket/api.Node), and what they leave. -/
namespace Go.Proofs.Ytkagaobelhpojaa.P4
open Go.RowKit Kd
variable {B p R : Nat} {n : Int} {v : Value} {l : List (Sl Nat)}

theorem findP_at {t : Int} {k : Nat} {b : Bool} (w : World) (hk : posA l t = k) (hb : hasA l t = b) (h : ArP w B p R n v l) :
    Calls Try.prog 81 #[.pointer (some ⟨p, 0, none⟩), .int .i64 t] w fun e w' => e = .returned (.tuple #[.int .i64 k, .bool b]) ∧ Below w.heap.size w w' := by
  subst hk; subst hb
  exact findP_any t w h

theorem cellsP_set : ∀ (l : List (Sl Nat)) (k : Nat) (t : Int) (x : Nat), atB l k t = true → kSP.cells (l.set k ⟨t, x⟩) = (kSP.cells l).set (k * 2 + 1) (.pointer (some ⟨x, 0, none⟩))
  | [], k, t, x, h => by simp [atB] at h
  | s :: r, 0, t, x, h => by
    have : s.id = t := by simpa [atB] using h
    subst this
    rfl
  | s :: r, k + 1, t, x, h => by
    have := cellsP_set r k t x (by simpa [atB] using h)
    rw [show (k + 1) * 2 + 1 = (k * 2 + 1) + 1 + 1 by omega, List.set_cons_succ]
    simp only [Kind.cells, List.flatMap_cons] at this ⊢
    rw [this]
    rfl

/-! ### Get -/
set_option maxHeartbeats 400000 in
theorem getP_no (t : Int) (w : World) (ht : hasA l t = false) (h : ArP w B p R n v l) :
    Calls Try.prog 46 #[.pointer (some ⟨p, 0, none⟩), .int .i64 t] w fun e w' => e = .returned (.tuple #[(.pointer none), .bool false]) ∧ Below w.heap.size w w' := by
  have HT := Lib.hid ht
  have H := Lib.hid h
  clear ht h
  go_enter Try.func46, Try.ntmps46
  go_wp2_with fail
  refine (findP_at w rfl HT.out H.out).mono ?_
  rintro e w1 ⟨rfl, b1⟩
  have B1 := Lib.hid b1
  clear b1
  go_wp2_with fail
  go_ret2
  exact ⟨rfl, B1.out⟩
set_option maxHeartbeats 400000 in
theorem getP_at (t : Int) (k : Nat) {x : Nat} (w : World) (hk : k < l.length) (ht : l[k].id = t) (hx : l[k].x = x) (h : ArP w B p R n v l) :
    Calls Try.prog 46 #[.pointer (some ⟨p, 0, none⟩), .int .i64 t] w fun e w' => e = .returned (.tuple #[(.pointer (some ⟨x, 0, none⟩)), .bool true]) ∧ Below w.heap.size w w' := by
  subst hx
  have HP : Hid (posA l t = k) := by subst ht; exact posA_at h.asc hk
  have HT : Hid (hasA l t = true) := by subst ht; exact hasA_at h.asc hk
  obtain ⟨A, m, c, rfl, hm, hmc, hcm, hz, hh⟩ := h.own.slice
  have H := Lib.hid h
  have HH := Lib.hid hh
  have hkm : k < m := by omega
  have hm2 : m ≤ 200 := by have := h.len; have := h.room; omega
  clear ht h hh hz hm hcm
  go_enter Try.func46, Try.ntmps46
  go_wp2_with fail
  refine (findP_at w HP.out HT.out H.out).mono ?_
  rintro e w1 ⟨rfl, b1⟩
  have B1 := Lib.hid b1
  have c2 := (H.out.below b1 (Nat.le_refl _)).c2
  obtain ⟨b, o, rfl, hb, h0, h1⟩ := atP (HH.out.on b1) hk
  clear b1
  go_wp2_with fail
  go_ret2
  exact ⟨rfl, B1.out⟩

/-! ### Set -/
def SetP (w : World) (B p R : Nat) (n : Int) (v : Value) (l : List (Sl Nat)) (t : Int) (x : Nat) (e : Ending) (w' : World) : Prop :=
  e = .returned (.bool true) ∧ ArP w' B p R n v (l.set (posA l t) ⟨t, x⟩) ∧ But (Arm p v) w w'
set_option maxHeartbeats 400000 in
theorem setP_no (t : Int) (x : Nat) (w : World) (ht : hasA l t = false) (h : ArP w B p R n v l) :
    Calls Try.prog 52 #[.pointer (some ⟨p, 0, none⟩), .int .i64 t, (.pointer (some ⟨x, 0, none⟩))] w fun e w' => e = .returned (.bool false) ∧ Below w.heap.size w w' := by
  have HT := Lib.hid ht
  have H := Lib.hid h
  clear ht h
  go_enter Try.func52, Try.ntmps52
  go_wp2_with fail
  refine (findP_at w rfl HT.out H.out).mono ?_
  rintro e w1 ⟨rfl, b1⟩
  have B1 := Lib.hid b1
  clear b1
  go_wp2_with fail
  go_ret
  exact ⟨rfl, B1.out⟩
set_option maxHeartbeats 400000 in
theorem setP_yes (t : Int) (x : Nat) (w : World) (ht : hasA l t = true) (h : ArP w B p R n v l) :
    Calls Try.prog 52 #[.pointer (some ⟨p, 0, none⟩), .int .i64 t, (.pointer (some ⟨x, 0, none⟩))] w (SetP w B p R n v l t x) := by
  have HT := Lib.hid ht
  have hk : posA l t < l.length := atB_lt ht
  obtain ⟨k, hkp⟩ : ∃ k, k = posA l t := ⟨_, rfl⟩
  rw [← hkp] at hk
  have HP := Lib.hid hkp.symm
  rcases h.own.form with ⟨_, rfl⟩ | ⟨g, c, cur, rfl, hv, hBg, hlt, hh, hnc, hcm, hcs, hta⟩
  · simp at hk
  obtain ⟨m, hm⟩ : ∃ m, l.length = m := ⟨_, rfl⟩
  rw [hm] at hk hnc h ⊢
  have H := Lib.hid h
  have HM := Lib.hid hm
  have HC := Lib.hid hh
  have hcs' : cur.size = c * 2 := hcs
  have hck : k * 2 + 1 < cur.size := by omega
  have HS := Lib.hid hck
  have hm2 : m ≤ 200 := by have := h.len; have := h.room; omega
  clear ht h hcm hcs hcs' hta hm hh hkp hck hv
  go_enter Try.func52, Try.ntmps52
  go_wp2_with fail
  refine (findP_at w HP.out HT.out H.out).mono ?_
  rintro e w1 ⟨rfl, b1⟩
  have B1 := Lib.hid b1
  have H1 := Lib.hid (H.out.below b1 (Nat.le_refl _))
  have c2 := H1.out.c2
  have HC1 : Hid (w1.heap[g]? = some (.cells cur kSP.e (0, 0))) := Lib.hid ((b1.block g hlt).trans HC.out)
  obtain ⟨u0, d1⟩ : ∃ u, w1.cell? ⟨g, k * 2 + 1, none⟩ = some u := ⟨cur[k * 2 + 1]'HS.out, by rw [cell_of_row w1 g _ _ _ (0, 0) HC1.out]; exact Array.getElem?_eq_getElem HS.out⟩
  have f1 : w1.frozen? ⟨g, k * 2 + 1, none⟩ = false := by have hb := HC1.out; simp [World.frozen?, hb]
  clear b1
  go_wp2_with fail
  go_ret
  have hgp : p ≠ g := fun e => heap_ne H1.out.blk HC1.out (by decide) e
  refine ⟨rfl, ⟨(Below.heap_setCell _ _ _ _ hgp).trans H1.out.blk, ?_, H.out.base, asc_set H.out.asc HT.out x, H.out.pos, by rw [List.length_set]; exact H.out.len, H.out.room⟩, ?_⟩
  · exact Kind.Own.set_ H1.out.own HM.out (by simp) (by rw [cellsP_set l _ t x HT.out, HP.out])
  · exact But.setCell (But.of_below B1.out _) (fun _ => .inr rfl) _

/-! ### Drop -/
def DropP (w : World) (B p R : Nat) (n : Int) (v : Value) (l : List (Sl Nat)) (t : Int) (e : Ending) (w' : World) : Prop :=
  e = .returned (.bool true) ∧ ∃ v', ArP w' B p R n v' (l.eraseIdx (posA l t)) ∧ But (Arm p v) w w' ∧ v'.ownBlock = v.ownBlock
set_option maxHeartbeats 400000 in
theorem dropP_no (t : Int) (w : World) (ht : hasA l t = false) (h : ArP w B p R n v l) :
    Calls Try.prog 113 #[.pointer (some ⟨p, 0, none⟩), .int .i64 t] w fun e w' => e = .returned (.bool false) ∧ Below w.heap.size w w' := by
  have HT := Lib.hid ht
  have H := Lib.hid h
  clear ht h
  go_enter Try.func113, Try.ntmps113
  go_wp2_with fail
  refine (findP_at w rfl HT.out H.out).mono ?_
  rintro e w1 ⟨rfl, b1⟩
  have B1 := Lib.hid b1
  clear b1
  go_wp2_with fail
  go_ret
  exact ⟨rfl, B1.out⟩
set_option maxHeartbeats 400000 in
theorem dropP_yes (t : Int) (w : World) (ht : hasA l t = true) (h : ArP w B p R n v l) :
    Calls Try.prog 113 #[.pointer (some ⟨p, 0, none⟩), .int .i64 t] w (DropP w B p R n v l t) := by
  have HT := Lib.hid ht
  have hk : posA l t < l.length := atB_lt ht
  obtain ⟨k, hkp⟩ : ∃ k, k = posA l t := ⟨_, rfl⟩
  rw [← hkp] at hk
  have HP := Lib.hid hkp.symm
  rcases h.own.form with ⟨_, rfl⟩ | ⟨g, c, cur, rfl, _⟩
  · simp at hk
  obtain ⟨r, hr⟩ : ∃ r, l.length = k + 1 + r := ⟨l.length - (k + 1), by omega⟩
  rw [hr] at h ⊢
  have H := Lib.hid h
  have HR := Lib.hid hr
  have hm2 : k + 1 + r ≤ 200 := by have := h.len; have := h.room; omega
  clear ht h hr hkp hk
  go_enter Try.func113, Try.ntmps113
  go_wp2_with fail
  refine (findP_at w HP.out HT.out H.out).mono ?_
  rintro e w1 ⟨rfl, b1⟩
  have B1 := Lib.hid b1
  have H1 := Lib.hid (H.out.below b1 (Nat.le_refl _))
  have c2 := H1.out.c2
  clear b1
  go_wp2_with fail
  refine (deleteP_any g k r c w1 HR.out (by omega) H1.out.own).mono ?_
  rintro e w2 ⟨rfl, o2, b2⟩
  have hgp : Hid (¬ p = g) := Lib.hid fun e => H1.out.apart (by rw [e]; rfl)
  have B2 := Lib.hid b2
  have O2 := Lib.hid o2
  have blk2 : Hid (w2.heap[p]? = some (.cells #[.int .i64 R, .int .i64 n, .slice (some ⟨g, 0, none⟩) (k + 1 + r) c] 114 (0, 0))) := Lib.hid ((b2.block p H1.out.lt hgp.out).trans H1.out.blk)
  have d2 : w2.cell? ⟨p, 2, none⟩ = some (.slice (some ⟨g, 0, none⟩) (k + 1 + r) c) := cell_of_row w2 p 2 _ _ (0, 0) blk2.out
  have f2 : w2.frozen? ⟨p, 2, none⟩ = false := by have hb := blk2.out; simp [World.frozen?, hb]
  clear b2 o2 c2
  go_wp2_with fail
  go_ret
  refine ⟨rfl, _, ⟨heap_set blk2.out 2 _, ?_, H.out.base, asc_drop H.out.asc _, H.out.pos, ?_, H.out.room⟩, ?_, rfl⟩
  · rw [HP.out]
    exact O2.out.keep fun g' hg => Below.heap_setCell _ _ _ _ (by simp only [Value.ownBlock, Option.some.injEq] at hg; subst hg; exact fun e => hgp.out e.symm)
  · have := H.out.len
    have := List.length_eraseIdx_le l (posA l t)
    omega
  · exact But.setCell (But.trans (But.of_below B1.out (Arm p _)) B2.out (fun i _ hi => .inr (by subst hi; rfl))) (fun _ => .inl rfl) _
end Go.Proofs.Ytkagaobelhpojaa.P4

/- An arena's Clone: another one, of the same slots, whose memory is all new. -/
namespace Go.Proofs.Ytkagaobelhpojaa.P4
open Go.RowKit Kd
variable {B p R : Nat} {n : Int} {v : Value} {l : List (Sl Nat)}

set_option maxHeartbeats 400000 in
theorem scloneP_any {A : Option Addr} {m c : Nat} (w : World) (h : kSP.Own w B (.slice A m c) l) (hl : l.length ≤ 1000000) :
    Calls Try.prog 82 #[.slice A m c] w fun e w' => ∃ v', e = .returned v' ∧ kSP.Own w' w.heap.size v' l ∧ Below w.heap.size w w' := by
  rcases h.form with ⟨hv, rfl⟩ | ⟨g, c', cur, hv, _⟩
  · injection hv with e1 e2 e3
    subst e1; subst e2; subst e3
    clear h
    have hq := fun w' => Lib.run_eql_slice_nil (P := Try.prog) w' 112 121 Option.none 0 0 0 0 Try.underlying112
    go_enter Try.func82, Try.ntmps82
    go_wp2
    go_ret
    exact ⟨_, rfl, Kind.Own.nil _ _ _, Below.refl _ _⟩
  · injection hv with e1 e2 e3
    subst e1
    obtain ⟨A', m', c'', hA, hm, hmc, hcm, hz, hh⟩ := h.slice
    injection hA with e1' e2' e3'
    subst e2'; subst e3'
    have HM := Lib.hid hm
    have HH := Lib.hid (e1' ▸ hh)
    have hm2 : m ≤ 1000000 := by omega
    clear h hm hh hcm hmc hz e2 e3 e1' hl
    have hq := fun w' => Lib.run_eql_slice_nil (P := Try.prog) w' 112 121 (some ⟨g, 0, Option.none⟩) m c 0 0 Try.underlying112
    go_enter Try.func82, Try.ntmps82
    go_wp2_with (at_builtin; refine kSP.wp_app rfl _ _ rfl (v := .slice (some ⟨w.heap.size, 0, Option.none⟩) 0 0) (l := []) (m := l) (B := w.heap.size) rfl (Kind.Own.made kSP w _ (Nat.le_refl _)) rfl HM.out (fun e => by cases e) (HH.out.on ((Below.refl _ _).alloc (Nat.le_refl _) _)) (by simp; omega) (by simp) ?_; intro v' w2 hown hgrow hat)
    go_ret
    exact ⟨_, rfl, hown, ((Below.refl _ _).alloc (Nat.le_refl _) _).grown hgrow (by simp) (fun k hk => by simp [Value.ownBlock] at hk; omega)⟩

def CloneP (w : World) (R : Nat) (n : Int) (l : List (Sl Nat)) (e : Ending) (w' : World) : Prop :=
  ∃ (p : Nat) (v : Value), e = .returned (.pointer (some ⟨p, 0, none⟩)) ∧ ArP w' w.heap.size p R n v l ∧ Below w.heap.size w w'
set_option maxHeartbeats 1000000 in
theorem cloneP_any (w : World) (h : ArP w B p R n v l) : Calls Try.prog 48 #[.pointer (some ⟨p, 0, none⟩)] w (CloneP w R n l) := by
  obtain ⟨A, k, c, rfl, hk, hkc, hcm, hz, hh⟩ := h.own.slice
  have c0 := h.c0
  have c2 := h.c2
  have hlt := h.lt
  have hl : l.length ≤ 1000000 := by have := h.len; have := h.room; omega
  have H := Lib.hid h
  clear h hk hkc hcm hz hh
  go_enter Try.func48, Try.ntmps48
  go_wp2_with fail
  go_region_held3 (fun w' => w'.cell? ⟨p, 0, none⟩ = some (.int .i64 R) ∧ w'.cell? ⟨p, 2, none⟩ = some (.slice A k c)) (go_keep)
    ((first | (go_at_call 82; refine (scloneP_any (B := B) (l := l) _ (by exact (H.out.drewN _).own) hl).mono ?_; rintro e w1 ⟨v1, rfl, o1, b1⟩; obtain ⟨A1, k1, c1, rfl, _, _, _, _, _⟩ := o1.slice; have O1 := Lib.hid o1; have B1 := Lib.hid b1; have c0' : w1.cell? ⟨p, 0, none⟩ = some (.int .i64 R) := (b1.cell (by exact hlt)).trans c0; have c2' : w1.cell? ⟨p, 2, none⟩ = some (.slice A k c) := (b1.cell (by exact hlt)).trans c2; clear o1 b1) | fail))
  go_wp2_with fail
  have BW : Hid (Below w.heap.size w (w1.alloc (.cells #[.int .i64 R, .int .i64 0, .slice A1 k1 c1] 114))) := Lib.hid (Below.alloc (a := w) (by exact (Below.drew (Below.refl _ w)).trans B1.out) (by exact B1.out.size) _)
  have BLK : Hid ((w1.alloc (.cells #[.int .i64 R, .int .i64 0, .slice A1 k1 c1] 114)).heap[w1.heap.size]? = some (.cells #[.int .i64 R, .int .i64 0, .slice A1 k1 c1] 114 (0, 0))) := Lib.hid (heap_alloc_new w1 _)
  have OWN : Hid (kSP.Own (w1.alloc (.cells #[.int .i64 R, .int .i64 0, .slice A1 k1 c1] 114)) w.heap.size (.slice A1 k1 c1) l) := Lib.hid (O1.out.alloc _)
  have hq : w.heap.size ≤ w1.heap.size := B1.out.size
  generalize w1.alloc (.cells #[.int .i64 R, .int .i64 0, .slice A1 k1 c1] 114) = W at BW BLK OWN ⊢
  generalize w1.heap.size = q at BLK hq ⊢
  have d1 : W.cell? ⟨p, 1, none⟩ = some (.int .i64 n) := (BW.out.cell (by exact hlt)).trans H.out.c1
  have e1 : W.cell? ⟨q, 1, none⟩ = some (.int .i64 0) := cell_of_row W q 1 _ _ (0, 0) BLK.out
  have g1 : W.frozen? ⟨q, 1, none⟩ = false := by have hb := BLK.out; simp [World.frozen?, hb]
  clear c0 c2 c0' c2' O1 B1
  go_region_held3 (fun _ => True) (trivial)
    ((first
      | (go_at_call 84; refine (load_any p 1 n _ (by exact d1)).mono ?_; rintro e w' ⟨rfl, rfl⟩)
      | (go_at_call 83; refine (store_any q 1 n (.int .i64 0) _ (by exact e1) (by exact g1)).mono ?_; rintro e w' ⟨rfl, rfl⟩)
      | fail))
  go_wp2_with fail
  go_ret
  refine ⟨q, _, rfl, ⟨heap_set (by exact BLK.out) 1 _, ?_, hq, H.out.asc, H.out.pos, H.out.len, H.out.room⟩, ?_⟩
  · exact OWN.out.keep fun g hg => Below.heap_setCell _ _ _ _ (by
      rintro rfl
      obtain ⟨d, hd⟩ := OWN.out.ty hg
      exact heap_ne hd BLK.out (by decide) rfl)
  · exact Below.setCell (Below_drewN BW.out _) hq _
end Go.Proofs.Ytkagaobelhpojaa.P4
