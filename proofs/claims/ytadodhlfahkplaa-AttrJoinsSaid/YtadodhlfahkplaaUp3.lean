/- The document's example of layer 3, at the head of both laws: it answers true. -/
import Derived.Test.YtadodhlfahkplaaLaw3
namespace Go.Proofs.Ytadodhlfahkplaa.P3
open Go.RowKit

def atA : At := ⟨⟨#[97]⟩, ⟨#[49]⟩, true⟩
def atBb : At := ⟨⟨#[98]⟩, ⟨#[50]⟩, false⟩
def atC : At := ⟨⟨#[99]⟩, ⟨#[51]⟩, false⟩

theorem Holds.lit {w : World} {g : Nat} {l : List At} (h : w.heap[g]? = some (.cells (cellsA l).toArray 26 (0, 0))) : Holds w (g + 1) (some ⟨g, 0, none⟩) l := by
  intro k hk
  obtain ⟨k0, k1, k2⟩ := cellsA_at l k hk
  refine ⟨g, 0, rfl, by omega, ?_, ?_, ?_⟩ <;> rw [Nat.zero_add, cell_of_row w g _ _ _ (0, 0) h, List.getElem?_toArray] <;> assumption

theorem heap_up {w : World} {o x : Obj} {g : Nat} (h : w.heap[g]? = some x) : (w.alloc o).heap[g]? = some x := by
  rcases Nat.lt_or_ge g w.heap.size with hlt | hge
  · exact (Below.heap_alloc w o g hlt).trans h
  · rw [Array.getElem?_eq_none hge] at h; cases h
theorem heap_top {w : World} {o : Obj} {g : Nat} (h : g = w.heap.size) : (w.alloc o).heap[g]? = some o := by subst h; exact heap_alloc_new w o
theorem up_join : joinA [atA, atBb] [atC] = [atA, atC] := by
  simp [joinA, thoseA, addA, hasA, findA, sameN, ByteArray.toList_eq, atA, atBb, atC]
theorem up_find : findA [atA, atC] ⟨#[99]⟩ = some atC := by
  simp [findA, sameN, ByteArray.toList_eq, atA, atC]
theorem up_may : mayA [atA, atC] = true := by
  rw [mayA_iff]
  refine ⟨by decide, fun a ha => ?_, ?_⟩
  · simp only [List.mem_cons, List.not_mem_nil, or_false] at ha
    rcases ha with rfl | rfl <;> exact ⟨by decide, by decide⟩
  · simp [ByteArray.toList_eq, atA, atC]
theorem up_may0 : mayA [⟨⟨#[]⟩, ⟨#[]⟩, false⟩] = false := by
  rw [← Bool.not_eq_true, mayA_iff]
  simp [P1.nameB]

theorem may_at (l : List At) (A : Option Addr) (n c : Nat) (w : World) {r : Bool} (hr : mayA l = r) (hn : l.length = n) (hl : n ≤ 1000000) (hnc : n ≤ c) (hwf : Wf l) (H : Holds w w.heap.size A l) :
    Calls Try.prog 8 #[.slice A n c] w fun e w' => e = .returned (.bool r) ∧ Below w.heap.size w w' := by
  subst hr; exact may_any l A n c w hn hl hnc hwf H
theorem wf_up : Wf [atA, atC] := by
  intro a ha
  simp only [List.mem_cons, List.not_mem_nil, or_false] at ha
  rcases ha with rfl | rfl <;> exact ⟨by decide, by decide⟩
theorem wf_up0 : Wf [⟨⟨#[]⟩, ⟨#[]⟩, false⟩] := by
  intro a ha
  simp only [List.mem_cons, List.not_mem_nil, or_false] at ha
  subst ha
  exact ⟨by decide, by decide⟩
/-- what lies in memory ahead of the example's last line -/
structure Up (W : World) (p q r b o : Nat) : Prop where
  a : Blk W p atA
  c : Blk W q atC
  x : Blk W r atC
  l : Holds W W.heap.size (some ⟨b, o, none⟩) [atA, atC]
theorem Up.below {W W' : World} {p q r b o : Nat} (h : Up W p q r b o) (hb : Below W.heap.size W W') : Up W' p q r b o :=
  ⟨h.a.below hb h.a.lt, h.c.below hb h.c.lt, h.x.below hb h.x.lt, h.l.on hb⟩
theorem Up.drewN {W : World} {p q r b o : Nat} (h : Up W p q r b o) (n : Nat) : Up (W.drewN n) p q r b o := ⟨h.a.drewN n, h.c.drewN n, h.x.drewN n, h.l⟩
theorem Up.alloc {W : World} {p q r b o : Nat} (h : Up W p q r b o) (ob : Obj) : Up (W.alloc ob) p q r b o := ⟨h.a.alloc ob, h.c.alloc ob, h.x.alloc ob, h.l.on ((Below.refl _ _).alloc (Nat.le_refl _) ob)⟩
theorem drew_below {a W w' : World} {B : Nat} (h : Below B a W) (hB : B ≤ W.heap.size) (n : Nat) (h2 : Below (W.drewN n).heap.size (W.drewN n) w') : Below B a w' :=
  (Below_drewN h n).trans (h2.mono hB)
theorem alloc_below {a w w' : World} {B : Nat} {o : Obj} (h : Below B a w) (hB : B ≤ w.heap.size) (h2 : Below (w.alloc o).heap.size (w.alloc o) w') : Below B a w' :=
  (h.alloc hB o).trans (h2.mono (by simp; omega))
theorem Up.cells {W : World} {p q r b o : Nat} (h : Up W p q r b o) :
    W.cell? ⟨b, o, none⟩ = some (.string atA.nm) ∧ W.cell? ⟨b, o + 1, none⟩ = some (.string atA.vl) ∧ W.cell? ⟨b, o + 2, none⟩ = some (.bool atA.st) ∧
    W.cell? ⟨b, o + 3, none⟩ = some (.string atC.nm) ∧ W.cell? ⟨b, o + 3 + 1, none⟩ = some (.string atC.vl) ∧ W.cell? ⟨b, o + 3 + 2, none⟩ = some (.bool atC.st) := by
  obtain ⟨b', o', hA, _, h0, h1, h2⟩ := h.l 0 (by simp)
  injection hA with hA; injection hA with e1 e2; subst e1; subst e2
  obtain ⟨b', o', hA, _, h3, h4, h5⟩ := h.l 1 (by simp)
  injection hA with hA; injection hA with e1 e2; subst e1; subst e2
  exact ⟨h0, h1, h2, h3, h4, h5⟩

set_option maxHeartbeats 2000000 in
set_option maxRecDepth 100000 in
theorem up_any (w : World) : Calls Try.prog 5 #[] w fun e w' => e = .returned (.bool true) ∧ Below w.heap.size w w' := by
  go_enter Try.func5, Try.ntmps5
  go_wp2_with fail
  refine (join_any [atA, atBb] [atC] (some ⟨w.heap.size + 3, 0, none⟩) (some ⟨w.heap.size + 4, 0, none⟩) 2 1 2 1 _ rfl rfl (by omega) (by omega) ((Holds.lit ?_).more ?_) ((Holds.lit ?_).more ?_)).mono ?_
  case refine_1 => exact heap_up (heap_top (by simp))
  case refine_2 => simp
  case refine_3 => exact heap_top (by simp)
  case refine_4 => simp
  case refine_5 =>
    rintro e w1 ⟨v, rfl, o1, b1⟩
    rw [up_join] at o1
    have ka : Blk w1 w.heap.size atA := Blk.below (by exact heap_up (heap_up (heap_up (heap_up (heap_top rfl))))) b1 (by simp; omega)
    have kc : Blk w1 (w.heap.size + 2) atC := Blk.below (by exact heap_up (heap_up (heap_top (by simp)))) b1 (by simp)
    obtain ⟨A4, n4, c4, rfl, hn4, hc4, hm4, hz4, hb4, h4⟩ := o1.slice
    obtain rfl : n4 = 2 := hn4.symm
    have hB : Below w.heap.size w w1 := ((((((Below.refl w.heap.size w).alloc (Nat.le_refl _) _).alloc (by simp) _).alloc (by simp; omega) _).alloc (by simp; omega) _).alloc (by simp; omega) _).trans (b1.mono (by simp; omega))
    have KA := Lib.hid ka
    have KC := Lib.hid kc
    have BW := Lib.hid hB
    have H4 := Lib.hid h4
    clear ka kc hB hn4 hm4 hz4 hb4 h4 o1 b1
    go_wp2_with fail
    refine (find_any [atA, atC] A4 2 c4 ⟨#[99]⟩ _ rfl (by omega) H4.out).mono ?_
    rw [up_find]
    rintro e w2 ⟨rfl, b2⟩
    have B2 := Lib.hid b2
    clear b2
    obtain ⟨b, o, rfl, _, _⟩ := H4.out 0 (by simp)
    go_wp2_with fail
    have U : Hid (Up (w2.alloc (.cells #[.string atC.nm, .string atC.vl, .bool atC.st] 26)) w.heap.size (w.heap.size + 1 + 1) w2.heap.size b o) :=
      Lib.hid ⟨(KA.out.below B2.out KA.out.lt).alloc _, (KC.out.below B2.out KC.out.lt).alloc _, Blk.new _ _, (H4.out.on B2.out).on ((Below.refl _ _).alloc (Nat.le_refl _) _)⟩
    have BW2 : Hid (Below w.heap.size w (w2.alloc (.cells #[.string atC.nm, .string atC.vl, .bool atC.st] 26))) := Lib.hid ((BW.out.trans (B2.out.mono BW.out.size)).alloc (Nat.le_trans BW.out.size B2.out.size) _)
    generalize w2.alloc (.cells #[.string atC.nm, .string atC.vl, .bool atC.st] 26) = W at U BW2 ⊢
    have hW : w.heap.size ≤ W.heap.size := BW2.out.size
    generalize hr : w2.heap.size = r at U ⊢
    clear hr KA KC BW H4 B2
    obtain ⟨g0, g1, g2, g3, g4, g5⟩ := U.out.cells
    have a0 := U.out.a.c0
    have a1 := U.out.a.c1
    have a2 := U.out.a.c2
    have c0 := U.out.c.c0
    have c1 := U.out.c.c1
    have c2 := U.out.c.c2
    have x0 := U.out.x.c0
    have x1 := U.out.x.c1
    have x2 := U.out.x.c2
    have hg := eqg
    have tok1 : True := trivial
    have q1 := eql_at (atB_refl atA)
    have q2 := eql_at (atB_refl atC)
    go_region_held3 (fun w' => w'.cell? ⟨b, o, none⟩ = some (.string atA.nm) ∧ w'.cell? ⟨b, o + 1, none⟩ = some (.string atA.vl) ∧ w'.cell? ⟨b, o + 2, none⟩ = some (.bool atA.st) ∧
        w'.cell? ⟨b, o + 3, none⟩ = some (.string atC.nm) ∧ w'.cell? ⟨b, o + 3 + 1, none⟩ = some (.string atC.vl) ∧ w'.cell? ⟨b, o + 3 + 2, none⟩ = some (.bool atC.st) ∧
        w'.cell? ⟨w.heap.size, 0, none⟩ = some (.string atA.nm) ∧ w'.cell? ⟨w.heap.size, 1, none⟩ = some (.string atA.vl) ∧ w'.cell? ⟨w.heap.size, 2, none⟩ = some (.bool atA.st) ∧
        w'.cell? ⟨w.heap.size + 1 + 1, 0, none⟩ = some (.string atC.nm) ∧ w'.cell? ⟨w.heap.size + 1 + 1, 1, none⟩ = some (.string atC.vl) ∧ w'.cell? ⟨w.heap.size + 1 + 1, 2, none⟩ = some (.bool atC.st) ∧
        w'.cell? ⟨r, 0, none⟩ = some (.string atC.nm) ∧ w'.cell? ⟨r, 1, none⟩ = some (.string atC.vl) ∧ w'.cell? ⟨r, 2, none⟩ = some (.bool atC.st)) (go_keep) ((first
      | (go_at_call 8; have _t := tok1; refine (may_at [atA, atC] (some ⟨b, o, none⟩) 2 c4 _ up_may rfl (by omega) hc4 wf_up (by exact (U.out.drewN _).l)).mono ?_; rintro e w3 ⟨rfl, b3⟩; have U3 := Lib.hid (Up.below (by exact U.out.drewN _) b3); have B3 := Lib.hid b3; clear b3; obtain ⟨g0', g1', g2', g3', g4', g5'⟩ := U3.out.cells; have a0' := U3.out.a.c0; have a1' := U3.out.a.c1; have a2' := U3.out.a.c2; have c0' := U3.out.c.c0; have c1' := U3.out.c.c1; have c2' := U3.out.c.c2; have x0' := U3.out.x.c0; have x1' := U3.out.x.c1; have x2' := U3.out.x.c2; clear tok1)
      | (go_at_call 8; refine (may_at [⟨⟨#[]⟩, ⟨#[]⟩, false⟩] (some ⟨_, 0, none⟩) 1 1 _ up_may0 rfl (by omega) (by omega) wf_up0 ((Holds.one (heap_top rfl)).more (by simp))).mono ?_; rintro e w4 ⟨rfl, b4⟩; have B4 := Lib.hid b4; have U4 := Lib.hid (Up.below (by exact U3.out.alloc _) b4); clear b4; obtain ⟨g0', g1', g2', g3', g4', g5'⟩ := U4.out.cells; have a0' := U4.out.a.c0; have a1' := U4.out.a.c1; have a2' := U4.out.a.c2; have c0' := U4.out.c.c0; have c1' := U4.out.c.c1; have c2' := U4.out.c.c2; have x0' := U4.out.x.c0; have x1' := U4.out.x.c1; have x2' := U4.out.x.c2)
      | fail))
    go_wp2_with fail
    go_ret
    have BW3 := drew_below BW2.out hW _ B3.out
    exact ⟨rfl, alloc_below BW3 (Nat.le_trans hW (by simpa using B3.out.size)) B4.out⟩
end Go.Proofs.Ytadodhlfahkplaa.P3
