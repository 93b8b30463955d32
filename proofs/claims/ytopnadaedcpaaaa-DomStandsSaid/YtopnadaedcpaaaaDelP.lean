/- slices.Delete of one slot, slices.Clone of slots (of *placket/api.Node). -/
import Derived.Test.YtopnadaedcpaaaaFindP
import Derived.Deep.RegionLaw
import Derived.Lib.SliceRun
namespace Go.Proofs.Ytopnadaedcpaaaa.P4
open Go.RowKit Kd

theorem zeroP (w : World) : (zeroValue 98).run Try.prog w = .ok (.agg #[.int .i64 0, (.pointer none)]) w := by kernel_rfl

/-- 'clear' of one slot -/
theorem clearP (w : World) (ty : TypeId) (b o c : Nat) (hc : ∀ j, j < 2 → (w.cell? ⟨b, o + j, none⟩).isSome = true) (hf : ∀ j, j < 2 → w.frozen? ⟨b, o + j, none⟩ = false) :
    (Builtin.clear_ #[88] ty #[.slice (some ⟨b, o, none⟩) 1 c]).run Try.prog w = .ok (.tuple #[]) (w.setCells b o [.int .i64 0, (.pointer none)]) := by
  have hst := run_storeCells_cells (P := Try.prog) b o [.int .i64 0, (.pointer none)] 0 w (by simpa using hc) (by simpa using hf) (by simp [Value.oneCell'])
  simp only [Nat.add_zero] at hst
  have hz : (Builtin.zeroCells (Value.agg #[.int .i64 0, (.pointer none)]).cells 1).toList = [.int .i64 0, (.pointer none)] := by
    simp [Builtin.zeroCells, Value.cells, Array.range]
  simp [Builtin.clear_, run_underlying Try.underlying88, hz, hst]

/-- the block behind a delete: what stood ahead, what stood behind -/
theorem del_row {cur c1 c2 : Array Value} {xs news zs : List Value} {a m s : Nat} (h : cur.toList.take ((a + 1 + m) * s) = xs) (hs : (a + 1 + m) * s ≤ cur.size) (hn : news = xs.drop ((a + 1) * s)) (hz : zs.length = s)
    (e1 : c1.size = cur.size) (h1 : ∀ k, k < cur.size → c1[k]? = if a * s ≤ k ∧ k < a * s + news.length then news[k - a * s]? else cur[k]?)
    (e2 : c2.size = c1.size) (h2 : ∀ k, k < c1.size → c2[k]? = if (a + m) * s ≤ k ∧ k < (a + m) * s + zs.length then zs[k - (a + m) * s]? else c1[k]?) :
    c2.toList.take ((a + m) * s) = xs.take (a * s) ++ news := by
  have d1 : (a + 1 + m) * s = a * s + s + m * s := by rw [Nat.add_mul, Nat.add_mul, Nat.one_mul]
  have d2 : (a + m) * s = a * s + m * s := Nat.add_mul _ _ _
  have d3 : (a + 1) * s = a * s + s := by rw [Nat.add_mul, Nat.one_mul]
  have hxl : xs.length = a * s + s + m * s := by rw [← h, List.length_take, Array.length_toList]; omega
  have hnl : news.length = m * s := by rw [hn, List.length_drop]; omega
  have hx : ∀ k, k < xs.length → xs[k]? = cur[k]? := by
    intro k hk
    rw [← h, List.getElem?_take, if_pos (by omega), Array.getElem?_toList]
  apply List.ext_getElem?
  intro k
  rw [List.getElem?_take]
  by_cases hk : k < (a + m) * s
  · rw [if_pos hk, Array.getElem?_toList, h2 k (by omega), if_neg (by omega), h1 k (by omega)]
    by_cases hka : k < a * s
    · rw [if_neg (by omega), List.getElem?_append_left (by rw [List.length_take]; omega), List.getElem?_take, if_pos hka, hx k (by omega)]
    · have hta : (xs.take (a * s)).length = a * s := by rw [List.length_take]; omega
      rw [if_pos (by omega), List.getElem?_append_right (by omega), hta]
  · rw [if_neg hk, List.getElem?_eq_none]
    rw [List.length_append, List.length_take]
    omega

set_option maxHeartbeats 1000000 in
theorem deleteP_any (g i r c : Nat) {B : Nat} {l : List (Sl Nat)} (w : World) (hl : l.length = i + 1 + r) (hl2 : i + 1 + r ≤ 1000000) (h : kSP.Own w B (.slice (some ⟨g, 0, none⟩) (i + 1 + r) c) l) :
    Calls Try.prog 95 #[.slice (some ⟨g, 0, none⟩) (i + 1 + r) c, .int .i64 i, .int .i64 ((i : Int) + 1)] w fun e w' =>
      e = .returned (.slice (some ⟨g, 0, none⟩) (i + r) c) ∧ kSP.Own w' B (.slice (some ⟨g, 0, none⟩) (i + r) c) (l.eraseIdx i) ∧ But (fun k => k = g) w w' := by
  obtain ⟨i0, hi0, hz0, hz1, hz2⟩ := info_parts infoSP
  rcases h.form with ⟨hv, _⟩ | ⟨g', c', cur, hv, _, hBg, hlt, hh, hnc, hcm, hcs, ht⟩
  · cases hv
  injection hv with e1 e2 e3
  injection e1 with e1
  injection e1 with e1
  subst e1; subst e3
  clear e2
  rw [hl] at hnc ht
  have hcs : cur.size = c * 2 := hcs
  have ht : cur.toList.take ((i + 1 + r) * 2) = kSP.cells l := ht
  obtain ⟨news, hnews⟩ : ∃ news, news = kSP.cells (l.drop (i + 1)) := ⟨_, rfl⟩
  have hnl : news.length = r * 2 := by rw [hnews, Kind.cells_len, List.length_drop, hl]; show (i + 1 + r - (i + 1)) * 2 = r * 2; omega
  have hnd : news = (kSP.cells l).drop ((i + 1) * 2) := by rw [hnews, Kind.cells_drop]; rfl
  have cell : ∀ k, w.drew.cell? ⟨g, k, none⟩ = cur[k]? := fun k => cell_of_row w.drew g k _ _ (0, 0) hh
  have s1 : Hid (news.length = r * 2) := hnl
  have s2 : Hid (∀ u ∈ news, u.oneCell' = true) := by intro u hu; rw [hnews] at hu; exact Kind.cells_one _ _ u hu
  have s3 : Hid (∀ t, t < news.length → (w.drew.cell? ⟨g, 0 + i * 2 + t, none⟩).isSome = true ∧ w.drew.frozen? ⟨g, 0 + i * 2 + t, none⟩ = false) := by
    intro t htl
    refine ⟨by rw [cell, Array.getElem?_eq_getElem (by omega)]; rfl, ?_⟩
    have hh' : w.drew.heap[g]? = some (.cells cur kSP.e (0, 0)) := hh
    simp [World.frozen?, hh']
  have hsrc : ∀ t u, news[t]? = some u → w.drew.cell? ⟨g, (i + 1) * 2 + t, none⟩ = some u := by
    intro t u hu
    have htl := (List.getElem?_eq_some_iff.1 hu).1
    rw [cell, ← hu, hnd, List.getElem?_drop, ← ht, List.getElem?_take, if_pos (by omega), Array.getElem?_toList]
  obtain ⟨A, hA, hS⟩ : ∃ A : Addr, (if c = i + 1 then (some (⟨g, 0, none⟩ : Addr)) else some ⟨g, (i + 1) * 2, none⟩) = some A ∧ Hid (∀ t u, news[t]? = some u → w.drew.cell? (A.add t) = some u) := by
    by_cases hcj : c = i + 1
    · refine ⟨⟨g, 0, none⟩, if_pos hcj, fun t u hu => ?_⟩
      have htl := (List.getElem?_eq_some_iff.1 hu).1
      omega
    · refine ⟨⟨g, (i + 1) * 2, none⟩, if_neg hcj, fun t u hu => ?_⟩
      rw [Addr.add_lit]
      exact hsrc t u hu
  obtain ⟨W1, hW1⟩ : ∃ W1, W1 = w.drew.setCells g (0 + i * 2) news := ⟨_, rfl⟩
  have hh' : w.drew.heap[g]? = some (.cells cur kSP.e (0, 0)) := hh
  obtain ⟨c1, k1, k2, k3⟩ := heap_setCells g news (0 + i * 2) w.drew cur _ _ hh'
  rw [← hW1] at k1
  have hcl : ∀ ty q, (Builtin.clear_ #[88] ty #[.slice (some ⟨g, (i + r) * 2, none⟩) (i + 1 + r - (i + r)) q]).run Try.prog W1 = .ok (.tuple #[]) (W1.setCells g ((i + r) * 2) [.int .i64 0, (.pointer none)]) :=
    fun ty q => by
      rw [show i + 1 + r - (i + r) = 1 by omega]
      exact clearP W1 ty g ((i + r) * 2) q (fun j hj => by rw [cell_of_row W1 g _ _ _ (0, 0) k1, Array.getElem?_eq_getElem (by omega)]; rfl) (fun j _ => by simp [World.frozen?, k1])
  obtain ⟨c2, m1, m2, m3⟩ := heap_setCells g [.int .i64 0, (.pointer none)] ((i + r) * 2) W1 c1 _ _ k1
  have hO : Hid (kSP.Own (W1.setCells g ((i + r) * 2) [.int .i64 0, (.pointer none)]) B (.slice (some ⟨g, 0, none⟩) (i + r) c) (l.eraseIdx i)) := by
    refine Kind.own_mk (by rw [List.length_eraseIdx_of_lt (by omega)]; omega) hBg m1 (by omega) hcm (by rw [m2, k2]; exact hcs) ?_
    have hr := del_row (s := 2) ht (by omega) hnd (zs := [.int .i64 0, (.pointer none)]) rfl k2 (fun k hk => by have := k3 k hk; rwa [Nat.zero_add] at this) m2 m3
    rw [show kSP.size = 2 from rfl, hr, eraseIdx_eq, Kind.cells_append, Kind.cells_take, ← hnews]
    rfl
  have hB : Hid (But (fun k => k = g) w (W1.setCells g ((i + r) * 2) [.int .i64 0, (.pointer none)])) := by
    rw [hW1]
    exact But.setCells (S := fun k => k = g) (But.setCells (S := fun k => k = g) (But.drew (But.refl _ w)) (fun _ => rfl) _ _) (fun _ => rfl) _ _
  have hW : Hid (W1 = w.drew.setCells g (0 + i * 2) news) := hW1
  have hic : i ≤ c := by omega
  have hjc : i + 1 ≤ c := by omega
  have hne : ((i : Int) == (i : Int) + 1) = false := beq_eq_false_iff_ne.2 (by omega)
  unfold maxLen at hcm
  have hb0 : (0 : Int) ≤ (i : Int) + 1 := by omega
  have hb1 : (i : Int) + 1 ≤ (i : Int) + 1 + (r : Int) := by omega
  clear hW1 hh hh' hcs ht hnews hnl hnd cell hsrc k1 k2 k3 m1 m2 m3 h hl hz0 hz2
  go_enter Try.func95, Try.ntmps95
  go_wp2_with fail
  go_region_law (refine step_append_room rfl (.tmp 22) (.tmp 25) 88 rfl 98 i0 2 Try.underlying88 hi0 hz1 g 0 i c (by simp [Act.eval, Act.put]) A r (c - (i + 1)) news (by simp [Act.eval, Act.put]) s1.out hS.out s2.out (by omega) s3.out ?_; rw [← hW.out])
  go_wp2
  go_ret
  exact ⟨rfl, hO.out, hB.out⟩
end Go.Proofs.Ytopnadaedcpaaaa.P4
