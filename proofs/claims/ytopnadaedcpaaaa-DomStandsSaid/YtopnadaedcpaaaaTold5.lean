/- What the laws of layer 5 are told of a node; what a change leaves of the last identity. -/
import Derived.Test.YtopnadaedcpaaaaUp5
namespace Go.Proofs.Ytopnadaedcpaaaa.P5
open Go.RowKit Kd P4
variable {B p : Nat} {x : Dx}

/-! ### What a change leaves of the last identity -/
theorem apply_n (d : D) (r : Rc) : d.n ≤ (applyD d r).2.n ∧ (applyD d r).2.n ≤ d.n + 1 := by
  unfold applyD
  split
  · unfold makeD
    split
    · exact ⟨Int.le_refl _, by show d.n ≤ d.n + 1; omega⟩
    · split
      · exact ⟨Int.le_refl _, by show d.n ≤ d.n + 1; omega⟩
      · show d.n ≤ d.n + 1 ∧ d.n + 1 ≤ d.n + 1
        omega
  · split
    · unfold putD; split <;> exact ⟨Int.le_refl _, by show d.n ≤ d.n + 1; omega⟩
    · split
      · unfold goneD
        split
        · exact ⟨Int.le_refl _, by show d.n ≤ d.n + 1; omega⟩
        · split <;> exact ⟨Int.le_refl _, by show d.n ≤ d.n + 1; omega⟩
      · split
        · unfold attrsD
          split
          · exact ⟨Int.le_refl _, by show d.n ≤ d.n + 1; omega⟩
          · split
            · exact ⟨Int.le_refl _, by show d.n ≤ d.n + 1; omega⟩
            · split <;> exact ⟨Int.le_refl _, by show d.n ≤ d.n + 1; omega⟩
        · split
          · unfold dataD
            split
            · exact ⟨Int.le_refl _, by show d.n ≤ d.n + 1; omega⟩
            · split
              · exact ⟨Int.le_refl _, by show d.n ≤ d.n + 1; omega⟩
              · split <;> exact ⟨Int.le_refl _, by show d.n ≤ d.n + 1; omega⟩
          · exact ⟨Int.le_refl _, by show d.n ≤ d.n + 1; omega⟩
theorem focus_n (d : D) (i : Int) : (focusD d i).2.n = d.n := by
  unfold focusD; split <;> rfl

/-! ### A node that has been told, in a block of its own -/
def NdB (w : World) (g : Nat) (nd : Nd) (A : Option Addr) (n c : Nat) (A2 : Option Addr) (n2 k2 : Nat) : Prop :=
  w.heap[g]? = some (.cells #[.int .i64 nd.id, .int .i64 nd.par, .string nd.tag, .string nd.txt, .string nd.key, .slice A n c, .slice A2 n2 k2, .int .i64 nd.note] 52 (0, 0))
section
variable {w w' : World} {g : Nat} {nd : Nd} {A A2 : Option Addr} {n c n2 k2 : Nat}
theorem NdB.lt (h : NdB w g nd A n c A2 n2 k2) : g < w.heap.size := heap_lt h
theorem NdB.below {C : Nat} (h : NdB w g nd A n c A2 n2 k2) (hb : Below C w w') (hC : g < C) : NdB w' g nd A n c A2 n2 k2 := (hb.block g hC).trans h
theorem NdB.new (w : World) (nd : Nd) (A : Option Addr) (n c : Nat) (A2 : Option Addr) (n2 k2 : Nat) : NdB (w.alloc (.cells #[.int .i64 nd.id, .int .i64 nd.par, .string nd.tag, .string nd.txt, .string nd.key, .slice A n c, .slice A2 n2 k2, .int .i64 nd.note] 52)) w.heap.size nd A n c A2 n2 k2 := heap_alloc_new w _
theorem NdB.c0 (h : NdB w g nd A n c A2 n2 k2) : w.cell? ⟨g, 0, none⟩ = some (.int .i64 nd.id) := cell_of_row w g 0 _ _ (0, 0) h
theorem NdB.c1 (h : NdB w g nd A n c A2 n2 k2) : w.cell? ⟨g, 1, none⟩ = some (.int .i64 nd.par) := cell_of_row w g 1 _ _ (0, 0) h
theorem NdB.c2 (h : NdB w g nd A n c A2 n2 k2) : w.cell? ⟨g, 2, none⟩ = some (.string nd.tag) := cell_of_row w g 2 _ _ (0, 0) h
theorem NdB.c3 (h : NdB w g nd A n c A2 n2 k2) : w.cell? ⟨g, 3, none⟩ = some (.string nd.txt) := cell_of_row w g 3 _ _ (0, 0) h
theorem NdB.c4 (h : NdB w g nd A n c A2 n2 k2) : w.cell? ⟨g, 4, none⟩ = some (.string nd.key) := cell_of_row w g 4 _ _ (0, 0) h
theorem NdB.c5 (h : NdB w g nd A n c A2 n2 k2) : w.cell? ⟨g, 5, none⟩ = some (.slice A n c) := cell_of_row w g 5 _ _ (0, 0) h
theorem NdB.c6 (h : NdB w g nd A n c A2 n2 k2) : w.cell? ⟨g, 6, none⟩ = some (.slice A2 n2 k2) := cell_of_row w g 6 _ _ (0, 0) h
theorem NdB.c7 (h : NdB w g nd A n c A2 n2 k2) : w.cell? ⟨g, 7, none⟩ = some (.int .i64 nd.note) := cell_of_row w g 7 _ _ (0, 0) h
theorem NdB.frozen (h : NdB w g nd A n c A2 n2 k2) (i : Nat) : w.frozen? ⟨g, i, none⟩ = false := by
  unfold NdB at h
  simp [World.frozen?, h]
end
theorem next_quiet (w : World) (hn : x.n ≤ 100000) (h : Dc w B p x) (k : Nat) : Calls Try.prog 17 #[.pointer (some ⟨p, 0, none⟩)] (w.drewN k) fun e w' => e = .returned (.int .i64 (x.n + 1)) ∧ ∃ m, w' = w.drewN m :=
  (next_any (w.drewN k) hn rfl (h.drewN k)).mono fun _ _ ⟨he, hw⟩ => ⟨he, k, hw.symm⟩
theorem nd_kids {w : World} (h : Dc w B p x) (hwf : WF x.d) {k : Nat} (hk : k < x.rs.length) : x.rs[k].nd.attrs.length ≤ 1000 ∧ x.rs[k].nd.kids.length ≤ 1000 ∧ x.rs[k].nd.kids.Nodup ∧ (∀ c ∈ x.rs[k].nd.kids, ∃ j, ∃ hj : j < x.rs.length, x.rs[j].nd.id = c ∧ x.rs[j].nd.par = x.rs[k].nd.id) ∧ 1 ≤ x.rs[k].nd.id ∧ x.rs[k].nd.id ≤ x.n ∧ (x.rs[k].nd.tag.toList = [] → x.rs[k].nd.kids = []) := by
  have hm : x.rs[k].nd ∈ x.d.l := List.mem_map.2 ⟨_, List.getElem_mem hk, rfl⟩
  have hkd := (tag_at h hk rfl).2.2
  have hr := hwf.rng _ hm
  refine ⟨by have := hwf.att _ hm; omega, by have := hwf.kids_len hm; omega, by rw [← hkd]; exact hwf.tr.nod _, fun c hc => ?_, hr.1, hr.2, hwf.elem _ hm⟩
  obtain ⟨h1, h2⟩ := hwf.kid_has hm hc
  obtain ⟨j, hj, e1, _⟩ := h.place h1
  exact ⟨j, hj, e1, by rw [← (tag_at h hj e1).2.1]; exact h2⟩
theorem par_place {w : World} (h : Dc w B p x) (hwf : WF x.d) {k : Nat} (hk : k < x.rs.length) (h0 : x.rs[k].nd.par ≠ 0) : ∃ j, ∃ hj : j < x.rs.length, x.rs[j].nd.id = x.rs[k].nd.par := by
  have hp := (tag_at h hk rfl).2.1
  have : hasL x.d.l (parOf x.d.l x.rs[k].nd.id) = true := hwf.tr.hpar (by rw [show parOf x.d.l x.rs[k].nd.id = x.rs[k].nd.par from hp]; exact h0)
  rw [show parOf x.d.l x.rs[k].nd.id = x.rs[k].nd.par from hp] at this
  obtain ⟨j, hj, e, _⟩ := h.place this
  exact ⟨j, hj, e⟩

/-- what the law has told it of a node: its block, its children, all new -/
structure Seen (wc : World) (g : Nat) (nd : Nd) (A : Option Addr) (n c : Nat) (A2 : Option Addr) (n2 k2 : Nat) (w : World) : Prop where
  nb : NdB w g nd A n c A2 n2 k2
  hk : kI.Holds w w.heap.size A2 nd.kids
  bl : Below wc.heap.size wc w
theorem Seen.below {wc w w' : World} {g : Nat} {nd : Nd} {A A2 : Option Addr} {n c n2 k2 : Nat} (h : Seen wc g nd A n c A2 n2 k2 w) (hb : Below w.heap.size w w') : Seen wc g nd A n c A2 n2 k2 w' :=
  ⟨h.nb.below hb h.nb.lt, h.hk.on hb, h.bl.trans (hb.mono h.bl.size)⟩
theorem Seen.drewN {wc w : World} {g : Nat} {nd : Nd} {A A2 : Option Addr} {n c n2 k2 : Nat} (h : Seen wc g nd A n c A2 n2 k2 w) (k : Nat) : Seen wc g nd A n c A2 n2 k2 (w.drewN k) := ⟨h.nb, h.hk, Below_drewN h.bl k⟩
theorem NdB.set8 {w : World} {g : Nat} {nd nd' : Nd} {A A2 A' A2' : Option Addr} {n c n2 k2 n' c' n2' k2' : Nat} (h : NdB w g nd A n c A2 n2 k2) :
    NdB ((((((((w.setCell ⟨g, 0, none⟩ (.int .i64 nd'.id)).setCell ⟨g, 1, none⟩ (.int .i64 nd'.par)).setCell ⟨g, 2, none⟩ (.string nd'.tag)).setCell ⟨g, 3, none⟩ (.string nd'.txt)).setCell ⟨g, 4, none⟩ (.string nd'.key)).setCell ⟨g, 5, none⟩ (.slice A' n' c')).setCell ⟨g, 6, none⟩ (.slice A2' n2' k2')).setCell ⟨g, 7, none⟩ (.int .i64 nd'.note)) g nd' A' n' c' A2' n2' k2' := by
  unfold NdB at h ⊢
  simp [World.setCell, Array.getElem?_modify, h]
theorem dep_len {l : List Nd} (h : Tr (fun y => hasL l y = true) (parOf l) (kidsOf l)) {y : Int} (hy : hasL l y = true) : depOf (parOf l) y ≤ l.length := by
  obtain ⟨k, hk⟩ := h.dep y
  have := h.dep_le (L := idsOf l) (fun y hy => has_ids.1 hy) hy hk
  rw [depOf_is hk]
  simpa [idsOf] using this
/-- on the way up: the node in the block, and how many steps are left -/
def UpAt (wc : World) (x : Dx) (g : Nat) (s N : Nat) (w : World) : Prop :=
  ∃ (j : Nat) (hj : j < x.rs.length) (A : Option Addr) (n c : Nat) (A2 : Option Addr) (n2 k2 : Nat), NdB w g x.rs[j].nd A n c A2 n2 k2 ∧ s + depOf (parOf x.l) x.rs[j].nd.id ≤ N ∧ Below wc.heap.size wc w ∧ wc.heap.size ≤ g
theorem one_of {l : List Int} (h : l.Nodup) {i j : Nat} (hi : i < l.length) (hj : j < l.length) (hij : i < j) : (l[i] == l[j]) = false := by
  rw [beq_eq_false_iff_ne]
  have := List.pairwise_iff_getElem.1 h i j hi hj hij
  exact this
end Go.Proofs.Ytopnadaedcpaaaa.P5
