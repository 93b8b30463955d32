/- What an arena's calls answer (of *placket/api.Node), and what they leave. -/
import Derived.Test.YtopnadaedcpaaaaDelP
namespace Go.Proofs.Ytopnadaedcpaaaa.P4
open Go.RowKit Kd

/-! ### New -/
def NewP (w : World) (R : Nat) (e : Ending) (w' : World) : Prop :=
  ∃ p : Nat, e = .returned (.tuple #[.pointer (some ⟨p, 0, none⟩), .nilIface]) ∧ ArP w' w.heap.size p R 0 (.slice none 0 0) [] ∧ Below w.heap.size w w'
set_option maxHeartbeats 400000 in
theorem newP_no (r : Int) (w : World) (h : r < 1 ∨ 200 < r) : Calls Try.prog 26 #[.int .i64 r] w fun e w' =>
    e = .returned (.tuple #[.pointer none, .iface 29 (.int .i64 1)]) ∧ w = w' := by
  by_cases h1 : r < 1
  · go_enter Try.func26, Try.ntmps26
    go_wp2
    go_ret2
    exact ⟨rfl, rfl⟩
  · have h2 : 200 < r := by omega
    go_enter Try.func26, Try.ntmps26
    go_wp2
    go_ret2
    exact ⟨rfl, rfl⟩
set_option maxHeartbeats 400000 in
theorem newP_yes (r : Int) (w : World) (h1 : 1 ≤ r) (h2 : r ≤ 200) : Calls Try.prog 26 #[.int .i64 r] w (NewP w r.toNat) := by
  obtain ⟨R, rfl⟩ := Int.eq_ofNat_of_zero_le (show 0 ≤ r by omega)
  have h3 : ¬ (R : Int) < 1 := by omega
  have h4 : ¬ 200 < (R : Int) := by omega
  have h5 : R ≤ 200 := by omega
  go_enter Try.func26, Try.ntmps26
  go_wp2
  go_ret2
  exact ⟨_, rfl, ⟨heap_alloc_new w _, Kind.Own.nil _ _ _, Nat.le_refl _, asc_nil, by omega, by simp, h5⟩, (Below.refl _ _).alloc (Nat.le_refl _) _⟩

/-! ### Live, Next, Room -/
section
variable {B p R : Nat} {n : Int} {v : Value} {l : List (Sl Nat)}
theorem liveP_any {m : Nat} (w : World) (hm : l.length = m) (h : ArP w B p R n v l) : Calls Try.prog 50 #[.pointer (some ⟨p, 0, none⟩)] w fun e w' => e = .returned (.int .i64 m) ∧ w = w' := by
  obtain ⟨A, k, c, rfl, hk, hkc, hcm, hz, hh⟩ := h.own.slice
  obtain rfl : k = m := by omega
  have c2 := h.c2
  have hk2 : k ≤ 1000000 := by have := h.len; have := h.room; omega
  clear hh hz hcm hkc h hk hm
  go_enter Try.func50, Try.ntmps50
  go_wp2
  go_ret
  exact ⟨rfl, rfl⟩
theorem nextP_any {m : Int} (w : World) (hn : n ≤ 100000) (hm : m = n + 1) (h : ArP w B p R n v l) : Calls Try.prog 42 #[.pointer (some ⟨p, 0, none⟩)] w fun e w' => e = .returned (.int .i64 m) ∧ w = w' := by
  subst hm
  have c1 := h.c1
  have hp := h.pos
  clear h
  go_enter Try.func42, Try.ntmps42
  go_wp2_with fail
  refine (load_any _ _ _ _ c1).mono ?_
  rintro e w' ⟨rfl, rfl⟩
  go_wp2
  go_ret
  exact ⟨rfl, rfl⟩
theorem roomP_any (w : World) (h : ArP w B p R n v l) : Calls Try.prog 49 #[.pointer (some ⟨p, 0, none⟩)] w fun e w' => e = .returned (.int .i64 R) ∧ w = w' := by
  have c0 := h.c0
  clear h
  go_enter Try.func49, Try.ntmps49
  go_wp2
  go_ret
  exact ⟨rfl, rfl⟩

/-! ### Put -/
def PutP (w : World) (B p R : Nat) (n : Int) (v : Value) (l : List (Sl Nat)) (x : Nat) (e : Ending) (w' : World) : Prop :=
  e = .returned (.tuple #[.int .i64 (n + 1), .nilIface]) ∧ ∃ v', ArP w' B p R (n + 1) v' (l ++ [⟨n + 1, x⟩]) ∧ But (Arm p v) w w' ∧ ∀ g, v'.ownBlock = some g → v.ownBlock = some g ∨ w.heap.size ≤ g
set_option maxHeartbeats 1000000 in
theorem putP_full (x : Nat) (w : World) (hl : l.length = R) (h : ArP w B p R n v l) : Calls Try.prog 51 #[.pointer (some ⟨p, 0, none⟩), (.pointer (some ⟨x, 0, none⟩))] w fun e w' =>
    e = .returned (.tuple #[.int .i64 0, .iface 29 (.int .i64 6)]) ∧ Below w.heap.size w w' := by
  obtain ⟨A, k, c, rfl, hk, hkc, hcm, hz, hh⟩ := h.own.slice
  have c0 := h.c0
  have c2 := h.c2
  have hk2 : R ≤ k := by omega
  have hR : R ≤ 200 := h.room
  clear hh hz hcm hkc h hk hl
  go_enter Try.func51, Try.ntmps51
  go_wp2_with fail
  go_quiet (fail)
  go_wp2_with fail
  go_ret2
  exact ⟨rfl, Below_drewN (Below.refl _ _) _⟩
set_option maxHeartbeats 1000000 in
theorem putP_yes (x : Nat) (w : World) (hl : l.length < R) (hn : n ≤ 100000) (h : ArP w B p R n v l) : Calls Try.prog 51 #[.pointer (some ⟨p, 0, none⟩), (.pointer (some ⟨x, 0, none⟩))] w (PutP w B p R n v l x) := by
  obtain ⟨A, k, c, rfl, hk, hkc, hcm, hz, hh⟩ := h.own.slice
  have c0 := h.c0
  have c1 := h.c1
  have c2 := h.c2
  have f1 := h.frozen 1
  have H := Lib.hid h
  have hp := h.pos
  have hk2 : k < R := by omega
  have hR : R ≤ 200 := h.room
  have hkl := Lib.hid hk
  clear hh hz hcm hkc h hk hl
  go_enter Try.func51, Try.ntmps51
  go_wp2_with fail
  go_quiet (fail)
  go_wp2_with fail
  refine (add_any _ _ _ _ hp (by omega) (by exact c1) (by exact f1)).mono ?_
  rintro e w1 ⟨rfl, hw1⟩
  have blk1 : w1.heap[p]? = some (.cells #[.int .i64 R, .int .i64 (n + 1), .slice A k c] 90 (0, 0)) := by
    rw [← hw1]
    exact heap_set (by exact H.out.blk) 1 _
  have BLK := Lib.hid blk1
  have OWN : Hid (kSP.Own w1 B (.slice A k c) l) := Lib.hid (H.out.own.keep fun g hg => by
    rw [← hw1]
    exact Below.heap_setCell _ _ _ _ (by rintro rfl; exact H.out.apart hg))
  have BUT : Hid (But (Arm p (.slice A k c)) w w1) := Lib.hid (by
    rw [← hw1]
    exact But.setCell (But.drewN (But.refl _ _) _) (fun _ => .inl rfl) _)
  have c2' : w1.cell? ⟨p, 2, none⟩ = some (.slice A k c) := cell_of_row w1 p 2 _ _ (0, 0) blk1
  have hBw : B ≤ w1.heap.size := by have := H.out.base; have := H.out.lt; have := BUT.out.size; omega
  clear hw1 blk1 c0 c1 c2 f1
  go_wp2_with (at_builtin; refine kSP.wp_app rfl _ _ rfl (v := .slice A k c) (l := l) (m := [⟨n + 1, x⟩]) (B := B) rfl (OWN.out.alloc _) rfl rfl (fun e => by cases e) (Kind.Holds.lit (heap_alloc_new _ _) rfl) (by have := hkl.out; simp; omega) (by simp; omega) ?_; intro v' w2 hown hgrow hat; have blk2 : Hid (w2.heap[p]? = some (.cells #[.int .i64 R, .int .i64 (n + 1), .slice A k c] 90 (0, 0))) := Lib.hid ((hgrow.block p (heap_lt (heap_up BLK.out)) (fun e => H.out.apart e.symm)).trans (heap_up BLK.out)); have d2 : w2.cell? ⟨p, 2, none⟩ = some (.slice A k c) := cell_of_row w2 p 2 _ _ (0, 0) blk2.out; have g2 : w2.frozen? ⟨p, 2, none⟩ = false := (by have hb := blk2.out; simp [World.frozen?, hb]); obtain ⟨A2, k2, c2, rfl, _, _, _, _, _⟩ := hown.slice; have OWN2 := Lib.hid hown; have GROW := Lib.hid hgrow; have HAT : Hid (∀ g, (Value.slice A2 k2 c2).ownBlock = some g → (Value.slice A k c).ownBlock = some g ∨ w.heap.size ≤ g) := Lib.hid (by intro g hg; rcases hat with e | e <;> rw [e] at hg; (exact .inl hg); (have := BUT.out.size; simp at hg; exact .inr (by omega))); clear hown hgrow hat)
  go_ret2
  have hap : Hid (∀ g, Value.ownBlock (.slice A2 k2 c2) = some g → g ≠ p) := Lib.hid fun g hg e => by
    subst e
    obtain ⟨d, hd⟩ := OWN2.out.ty hg
    exact heap_ne hd blk2.out (by decide) rfl
  refine ⟨rfl, _, ⟨heap_set blk2.out 2 _, OWN2.out.keep fun g hg => Below.heap_setCell _ _ _ _ (hap.out g hg), H.out.base, asc_put H.out.asc hp x, by omega, by have := hkl.out; simp; omega, hR⟩, ?_, HAT.out⟩
  exact But.setCell (But.trans (BUT.out.alloc _) (But.of_grown (S := Arm p (.slice A k c)) GROW.out (fun g hg _ => .inr hg)) (fun _ _ h => h)) (fun _ => .inl rfl) _
end
end Go.Proofs.Ytopnadaedcpaaaa.P4
