/- An arena's Clone: another one, of the same slots, whose memory is all new. -/
import Derived.Test.YtopnadaedcpaaaaArena2P
import Derived.Deep.RegionHeld3
namespace Go.Proofs.Ytopnadaedcpaaaa.P4
open Go.RowKit Kd
variable {B p R : Nat} {n : Int} {v : Value} {l : List (Sl Nat)}

set_option maxHeartbeats 400000 in
theorem scloneP_any {A : Option Addr} {m c : Nat} (w : World) (h : kSP.Own w B (.slice A m c) l) (hl : l.length ≤ 1000000) :
    Calls Try.prog 53 #[.slice A m c] w fun e w' => ∃ v', e = .returned v' ∧ kSP.Own w' w.heap.size v' l ∧ Below w.heap.size w w' := by
  rcases h.form with ⟨hv, rfl⟩ | ⟨g, c', cur, hv, _⟩
  · injection hv with e1 e2 e3
    subst e1; subst e2; subst e3
    clear h
    have hq := fun w' => Lib.run_eql_slice_nil (P := Try.prog) w' 88 98 Option.none 0 0 0 0 Try.underlying88
    go_enter Try.func53, Try.ntmps53
    go_wp2
    go_ret
    exact ⟨_, rfl, Kind.Own.nil _ _ _, Below.refl _ _⟩
  · injection hv with e1 e2 e3
    subst e1
    obtain ⟨A', m', c'', hA, hm, hmc, hcm, hz, hh⟩ := h.slice
    injection hA with e1' e2' e3'
    subst e2'; subst e3'
    have HM := Lib.hid hm
    have HH := Lib.hid (e1' ▸ hh)
    have hm2 : m ≤ 1000000 := by omega
    clear h hm hh hcm hmc hz e2 e3 e1' hl
    have hq := fun w' => Lib.run_eql_slice_nil (P := Try.prog) w' 88 98 (some ⟨g, 0, Option.none⟩) m c 0 0 Try.underlying88
    go_enter Try.func53, Try.ntmps53
    go_wp2_with (at_builtin; refine kSP.wp_app rfl _ _ rfl (v := .slice (some ⟨w.heap.size, 0, Option.none⟩) 0 0) (l := []) (m := l) (B := w.heap.size) rfl (Kind.Own.made kSP w _ (Nat.le_refl _)) rfl HM.out (fun e => by cases e) (HH.out.on ((Below.refl _ _).alloc (Nat.le_refl _) _)) (by simp; omega) (by simp) ?_; intro v' w2 hown hgrow hat)
    go_ret
    exact ⟨_, rfl, hown, ((Below.refl _ _).alloc (Nat.le_refl _) _).grown hgrow (by simp) (fun k hk => by simp [Value.ownBlock] at hk; omega)⟩

def CloneP (w : World) (R : Nat) (n : Int) (l : List (Sl Nat)) (e : Ending) (w' : World) : Prop :=
  ∃ (p : Nat) (v : Value), e = .returned (.pointer (some ⟨p, 0, none⟩)) ∧ ArP w' w.heap.size p R n v l ∧ Below w.heap.size w w'
set_option maxHeartbeats 1000000 in
theorem cloneP_any (w : World) (h : ArP w B p R n v l) : Calls Try.prog 32 #[.pointer (some ⟨p, 0, none⟩)] w (CloneP w R n l) := by
  obtain ⟨A, k, c, rfl, hk, hkc, hcm, hz, hh⟩ := h.own.slice
  have c0 := h.c0
  have c2 := h.c2
  have hlt := h.lt
  have hl : l.length ≤ 1000000 := by have := h.len; have := h.room; omega
  have H := Lib.hid h
  clear h hk hkc hcm hz hh
  go_enter Try.func32, Try.ntmps32
  go_wp2_with fail
  go_region_held3 (fun w' => w'.cell? ⟨p, 0, none⟩ = some (.int .i64 R) ∧ w'.cell? ⟨p, 2, none⟩ = some (.slice A k c)) (go_keep)
    ((first | (go_at_call 53; refine (scloneP_any (B := B) (l := l) _ (by exact (H.out.drewN _).own) hl).mono ?_; rintro e w1 ⟨v1, rfl, o1, b1⟩; obtain ⟨A1, k1, c1, rfl, _, _, _, _, _⟩ := o1.slice; have O1 := Lib.hid o1; have B1 := Lib.hid b1; have c0' : w1.cell? ⟨p, 0, none⟩ = some (.int .i64 R) := (b1.cell (by exact hlt)).trans c0; have c2' : w1.cell? ⟨p, 2, none⟩ = some (.slice A k c) := (b1.cell (by exact hlt)).trans c2; clear o1 b1) | fail))
  go_wp2_with fail
  have BW : Hid (Below w.heap.size w (w1.alloc (.cells #[.int .i64 R, .int .i64 0, .slice A1 k1 c1] 90))) := Lib.hid (Below.alloc (a := w) (by exact (Below.drew (Below.refl _ w)).trans B1.out) (by exact B1.out.size) _)
  have BLK : Hid ((w1.alloc (.cells #[.int .i64 R, .int .i64 0, .slice A1 k1 c1] 90)).heap[w1.heap.size]? = some (.cells #[.int .i64 R, .int .i64 0, .slice A1 k1 c1] 90 (0, 0))) := Lib.hid (heap_alloc_new w1 _)
  have OWN : Hid (kSP.Own (w1.alloc (.cells #[.int .i64 R, .int .i64 0, .slice A1 k1 c1] 90)) w.heap.size (.slice A1 k1 c1) l) := Lib.hid (O1.out.alloc _)
  have hq : w.heap.size ≤ w1.heap.size := B1.out.size
  generalize w1.alloc (.cells #[.int .i64 R, .int .i64 0, .slice A1 k1 c1] 90) = W at BW BLK OWN ⊢
  generalize w1.heap.size = q at BLK hq ⊢
  have d1 : W.cell? ⟨p, 1, none⟩ = some (.int .i64 n) := (BW.out.cell (by exact hlt)).trans H.out.c1
  have e1 : W.cell? ⟨q, 1, none⟩ = some (.int .i64 0) := cell_of_row W q 1 _ _ (0, 0) BLK.out
  have g1 : W.frozen? ⟨q, 1, none⟩ = false := by have hb := BLK.out; simp [World.frozen?, hb]
  clear c0 c2 c0' c2' O1 B1
  go_region_held3 (fun _ => True) (trivial)
    ((first
      | (go_at_call 55; refine (load_any p 1 n _ (by exact d1)).mono ?_; rintro e w' ⟨rfl, rfl⟩)
      | (go_at_call 54; refine (store_any q 1 n (.int .i64 0) _ (by exact e1) (by exact g1)).mono ?_; rintro e w' ⟨rfl, rfl⟩)
      | fail))
  go_wp2_with fail
  go_ret
  refine ⟨q, _, rfl, ⟨heap_set (by exact BLK.out) 1 _, ?_, hq, H.out.asc, H.out.pos, H.out.len, H.out.room⟩, ?_⟩
  · exact OWN.out.keep fun g hg => Below.heap_setCell _ _ _ _ (by
      rintro rfl
      obtain ⟨d, hd⟩ := OWN.out.ty hg
      exact heap_ne hd BLK.out (by decide) rfl)
  · exact Below.setCell (Below_drewN BW.out _) hq _
end Go.Proofs.Ytopnadaedcpaaaa.P4
