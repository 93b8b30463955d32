/- A document's own block, its slots, its identities turned: what it is then. No condition. -/
import Derived.Test.YtopnadaedcpaaaaDom1
namespace Go.Proofs.Ytopnadaedcpaaaa.P5
open Go.RowKit Kd P4
variable {B p : Nat} {x : Dx}

theorem Dc.re {w w' : World} (h : Dc w B p x) {v' vi' : Value} {n' foc' : Int} {rs' : List Rw}
    (hb : But (fun g => g = p ∨ Arm x.a x.v g ∨ x.vi.ownBlock = some g) w w')
    (blk : w'.heap[p]? = some (.cells #[.pointer (some ⟨x.a, 0, none⟩), vi', .int .i64 foc'] 62 (0, 0)))
    (ar : ArP w' B x.a x.R n' v' (rs'.map slotOf)) (ids : kI.Own w' B vi' (idsOf (rs'.map (·.nd))))
    (hv : ∀ g, v'.ownBlock = some g → x.v.ownBlock = some g ∨ w.heap.size ≤ g) (hvi : ∀ g, vi'.ownBlock = some g → x.vi.ownBlock = some g ∨ w.heap.size ≤ g)
    (nodes : ∀ r ∈ rs', r ∈ x.rs ∨ NdAt w' B r ∧ w.heap.size ≤ r.b ∧ (∀ g, r.vk.val.ownBlock = some g → w.heap.size ≤ g) ∧ Apart vi' r.vk.val)
    (pw : rs'.Pairwise fun r s => r.b ≠ s.b ∧ Apart r.vk.val s.vk.val) : Did w B p x ⟨x.a, v', vi', x.R, n', foc', rs'⟩ w' := by
  have hS : ∀ g, (g = p ∨ Arm x.a x.v g ∨ x.vi.ownBlock = some g) → foot p x g := by
    rintro g (e | (e | e) | e)
    · exact .inl e
    · exact .inr (.inl e)
    · exact .inr (.inr (.inl e))
    · exact .inr (.inr (.inr (.inl e)))
  have hnA : NoA w (fun g => g = p ∨ Arm x.a x.v g ∨ x.vi.ownBlock = some g) := fun g c f hg => h.noA g c f (hS g hg)
  have kb : ∀ r ∈ x.rs, w'.heap[r.b]? = w.heap[r.b]? := by
    intro r hr
    have hn := h.nodes r hr
    refine hb.block _ hn.lt ?_
    rintro (e | e | e)
    · exact heap_ne hn.blk (e ▸ h.blk) (by decide) rfl
    · exact h.ar.other hn.blk (by decide) (by decide) e
    · obtain ⟨d, hd⟩ := h.ids.ty e
      exact heap_ne hn.blk hd (by decide) rfl
  have kk : ∀ r ∈ x.rs, ∀ g, r.vk.val.ownBlock = some g → w'.heap[g]? = w.heap[g]? := by
    intro r hr g hg
    have hn := h.nodes r hr
    obtain ⟨c, hc⟩ := hn.kids.ty hg
    refine hb.block _ (heap_lt hc) ?_
    rintro (e | e | e)
    · exact heap_ne hc (e ▸ h.blk) (by decide) rfl
    · exact h.ar.other hc (by decide) (by decide) e
    · exact h.apV r hr g e hg
  refine ⟨⟨blk, h.base, ar, ids, fun r hr => ?_, fun r hr => ?_, pw⟩, hb.mono fun g _ hg => hS g hg, fun g hg => ?_⟩
  · rcases nodes r hr with h1 | h1
    · exact (h.nodes r h1).keep (kb r h1) (kk r h1) ((h.nodes r h1).att.but hb hnA)
    · exact h1.1
  · rcases nodes r hr with h1 | h1
    · intro g hg e
      rcases hvi g hg with e2 | e2
      · exact h.apV r h1 g e2 e
      · have := ((h.nodes r h1).kids.lt e).2; omega
    · exact h1.2.2.2
  · rcases hg with e | e | e | e | ⟨r, hr, e⟩
    · exact .inl (.inl e)
    · exact .inl (.inr (.inl e))
    · rcases hv g e with e2 | e2
      · exact .inl (.inr (.inr (.inl e2)))
      · exact .inr e2
    · rcases hvi g e with e2 | e2
      · exact .inl (.inr (.inr (.inr (.inl e2))))
      · exact .inr e2
    · rcases nodes r hr with h1 | h1
      · exact .inl (.inr (.inr (.inr (.inr ⟨r, h1, e⟩))))
      · rcases e with e | e
        · exact .inr (by rw [e]; exact h1.2.1)
        · exact .inr (h1.2.2.1 g e)
theorem idsl (x : Dx) : idsOf (x.rs.map (·.nd)) = idsOf x.l := rfl
/-- the focus is another -/
theorem Dc.focus_ {w : World} (h : Dc w B p x) (i : Int) : Did w B p x { x with foc := i } (w.setCell ⟨p, 2, none⟩ (.int .i64 i)) := by
  have hb : But (fun g => g = p ∨ Arm x.a x.v g ∨ x.vi.ownBlock = some g) w (w.setCell ⟨p, 2, none⟩ (.int .i64 i)) := But.setCell (But.refl _ _) (fun _ => .inl rfl) _
  refine h.re (v' := x.v) (vi' := x.vi) (n' := x.n) (foc' := i) (rs' := x.rs) hb (heap_set h.blk 2 _) ?_ ?_ (fun g hg => .inl hg) (fun g hg => .inl hg) (fun r hr => .inl hr) h.pw
  · refine h.ar.keep (Below.heap_setCell _ _ _ _ (heap_ne h.ar.blk h.blk (by decide))) (fun g hg => Below.heap_setCell _ _ _ _ ?_)
    rintro rfl
    obtain ⟨d, hd⟩ := h.ar.own.ty hg
    exact heap_ne hd h.blk (by decide) rfl
  · refine h.ids.keep (fun g hg => Below.heap_setCell _ _ _ _ ?_)
    rintro rfl
    obtain ⟨d, hd⟩ := h.ids.ty hg
    exact heap_ne hd h.blk (by decide) rfl
theorem own_not {w : World} {C g : Nat} {v : Value} {l : List Int} {cur : Array Value} {t : TypeId} {fr : Nat × Nat} (h : kI.Own w C v l) (hg : w.heap[g]? = some (.cells cur t fr)) (ht : t ≠ 3) : some g ≠ v.ownBlock := fun e => by
  obtain ⟨d, hd⟩ := h.ty e.symm
  exact heap_ne hg hd ht rfl
/-- an error's number, as a value -/
def errV (c : Int) : Value := if c = 0 then .nilIface else .iface 29 (.int .i64 c)
/-- a call's post: it has answered r; the document is d then -/
def Made (w : World) (B p : Nat) (x : Dx) (r : Value) (d : D) (e : Ending) (w' : World) : Prop := e = .returned r ∧ ∃ x', Did w B p x x' w' ∧ x'.d = d
theorem Made.same {w w' : World} {r r' : Value} {d : D} (h : Dc w B p x) (hb : Below w.heap.size w w') (hr : r = r') (hd : x.d = d) : Made w B p x r' d (.returned r) w' := ⟨by rw [hr], x, Did.below_ h hb, hd⟩
end Go.Proofs.Ytopnadaedcpaaaa.P5
