/- Errors told apart; the law's Code and Pick. No condition. -/
import Derived.Lib.IfaceEq
import Derived.WideLaws
import Derived.Test.YtihjdmdafiifhaaGreatM2
import Derived.Test.YtihjdmdafiifhaaGreatM14
set_option linter.unusedVariables false
set_option linter.unusedSimpArgs false
set_option linter.unusedVariables false
set_option linter.unusedSimpArgs false
namespace Go.Proofs.YtihjdmdafiifhaaGreat.P4
open Go.RowKit Kd

theorem err_eql (a b : Int) (w : World) : (binOp .eql 51 (.iface 97 (.int .i64 a)) (.iface 97 (.int .i64 b))).run Tryz.prog w = .ok (.bool (a == b)) w :=
  Lib.run_eql_iface_int w a b Tryz.underlying51 (by kernel_rfl) Tryz.underlying97
theorem err_eql_nil (x : Value) (w : World) : (binOp .eql 51 (.iface 97 x) .nilIface).run Tryz.prog w = .ok (.bool false) w := run_eql_held_nil _ _ _ _ (by kernel_rfl)
theorem err_neq_nil (x : Value) (w : World) : (binOp .neq 51 (.iface 97 x) .nilIface).run Tryz.prog w = .ok (.bool true) w := run_neq_held_nil _ _ _ _ (by kernel_rfl)
theorem nil_eql_nil (w : World) : (binOp .eql 51 .nilIface .nilIface).run Tryz.prog w = .ok (.bool true) w := Go.run_eql_nil_nil _ _ (by kernel_rfl)
theorem nil_neq_nil (w : World) : (binOp .neq 51 .nilIface .nilIface).run Tryz.prog w = .ok (.bool false) w := Go.run_neq_nil_nil _ _ (by kernel_rfl)

end Go.Proofs.YtihjdmdafiifhaaGreat.P4

/- A node more, or the error; whether one may be made; a new document. -/
set_option linter.unusedVariables false
set_option linter.unusedSimpArgs false
namespace Go.Proofs.YtihjdmdafiifhaaGreat.P5
open Go.RowKit Kd P4
variable {B p : Nat} {x : Dx}

theorem heap_top {w : World} {o : Obj} {g : Nat} (h : g = w.heap.size) : (w.alloc o).heap[g]? = some o := by subst h; exact heap_alloc_new w o
theorem heap_drew {w : World} {o : Obj} {g : Nat} (h : w.heap[g]? = some o) : w.drew.heap[g]? = some o := h

/-! ### add -/
theorem add_end {w w2 w3 : World} {g : Nat} {v' vi' : Value} {tag txt key : ByteArray} (h : Dc w B p x)
    (hb2 : But (Arm x.a x.v) w w2) (hg : w2.heap[g]? = some (.cells #[.int .i64 (x.n + 1), .int .i64 0, .string tag, .string txt, .string key, .slice none 0 0, .slice none 0 0, .int .i64 0] 34 (0, 0))) (hgw : B ≤ g) (hfr : ∀ k, foot p x k → k ≠ g) (hgl : ¬ Arm x.a x.v g)
    (ar : ArP w2 B x.a x.R (x.n + 1) v' (x.rs.map slotOf ++ [⟨x.n + 1, g⟩])) (hv : ∀ k, v'.ownBlock = some k → x.v.ownBlock = some k ∨ w.heap.size ≤ k)
    (hb3 : But (fun k => x.vi.ownBlock = some k) w2 w3) (hids : kI.Own w3 B vi' (idsOf x.l ++ [x.n + 1])) (hvi : ∀ k, vi'.ownBlock = some k → x.vi.ownBlock = some k ∨ w2.heap.size ≤ k) :
    ∃ x', Dc (w3.setCell ⟨p, 1, none⟩ vi') B p x' ∧ But (foot p x) w (w3.setCell ⟨p, 1, none⟩ vi') ∧ (∀ k, foot p x' k → foot p x k ∨ k = g ∨ w.heap.size ≤ k) ∧ x'.d = { x.d with l := x.d.l ++ [newN (x.n + 1) tag txt key], n := x.n + 1 } := by
  have hpA : ¬ Arm x.a x.v p := by
    rintro (e | e)
    · exact heap_ne h.blk h.ar.blk (by decide) e
    · obtain ⟨d, hd⟩ := h.ar.own.ty e
      exact heap_ne h.blk hd (by decide) rfl
  have hviA : ∀ k, x.vi.ownBlock = some k → ¬ Arm x.a x.v k := fun k hk => by
    obtain ⟨d, hd⟩ := h.ids.ty hk
    exact h.ar.other hd (by decide) (by decide)
  have hp2 : w2.heap[p]? = _ := (hb2.block p (heap_lt h.blk) hpA).trans h.blk
  have hpvi : x.vi.ownBlock ≠ some p := fun e => by
    obtain ⟨d, hd⟩ := h.ids.ty e
    exact heap_ne hd h.blk (by decide) rfl
  have hp3 : w3.heap[p]? = _ := (hb3.block p (heap_lt hp2) hpvi).trans hp2
  have hb23 : But (fun k => Arm x.a x.v k ∨ x.vi.ownBlock = some k) w w3 := (hb2.mono fun _ _ h => .inl h).trans hb3 fun _ _ h => .inr h
  have hbf : But (fun k => k = p ∨ Arm x.a x.v k ∨ x.vi.ownBlock = some k) w (w3.setCell ⟨p, 1, none⟩ vi') := But.setCell (hb23.mono fun _ _ h => .inr h) (fun _ => .inl rfl) _
  have hS : ∀ k, (k = p ∨ Arm x.a x.v k ∨ x.vi.ownBlock = some k) → foot p x k := by
    rintro k (e | (e | e) | e)
    · exact .inl e
    · exact .inr (.inl e)
    · exact .inr (.inr (.inl e))
    · exact .inr (.inr (.inr (.inl e)))
  have hsz2 : w.heap.size ≤ w2.heap.size := hb2.size
  have hgp : g ≠ p := heap_ne hg hp2 (by decide)
  have hgvi : x.vi.ownBlock ≠ some g := fun e => hfr g (.inr (.inr (.inr (.inl e)))) rfl
  have hg3 : (w3.setCell ⟨p, 1, none⟩ vi').heap[g]? = some (.cells #[.int .i64 (x.n + 1), .int .i64 0, .string tag, .string txt, .string key, .slice none 0 0, .slice none 0 0, .int .i64 0] 34 (0, 0)) := (Below.heap_setCell _ _ _ _ hgp).trans ((hb3.block g (heap_lt hg) hgvi).trans hg)
  have nd0 : NdAt (w3.setCell ⟨p, 1, none⟩ vi') B ⟨g, ⟨none, 0, 0⟩, ⟨none, 0, 0⟩, newN (x.n + 1) tag txt key⟩ := ⟨hg3, hgw, AOk.nil_ _, Kind.Own.nil _ _ _⟩
  have kb : ∀ r ∈ x.rs, NdAt (w3.setCell ⟨p, 1, none⟩ vi') B r := by
    intro r hr
    have hn := h.nodes r hr
    refine hn.keep (hbf.block _ hn.lt ?_) (fun k hk => ?_) (hn.att.but hbf (fun k c f hk => h.noA k c f (hS k hk)))
    · rintro (e | e | e)
      · exact heap_ne hn.blk (e ▸ h.blk) (by decide) rfl
      · exact h.ar.other hn.blk (by decide) (by decide) e
      · obtain ⟨d, hd⟩ := h.ids.ty e
        exact heap_ne hn.blk hd (by decide) rfl
    · obtain ⟨c, hc⟩ := hn.kids.ty hk
      refine hbf.block _ (heap_lt hc) ?_
      rintro (e | e | e)
      · exact heap_ne hc (e ▸ h.blk) (by decide) rfl
      · exact h.ar.other hc (by decide) (by decide) e
      · exact h.apV r hr k e hk
  refine ⟨⟨x.a, v', vi', x.R, x.n + 1, x.foc, x.rs ++ [⟨g, ⟨none, 0, 0⟩, ⟨none, 0, 0⟩, newN (x.n + 1) tag txt key⟩]⟩, ⟨?_, h.base, ?_, ?_, ?_, ?_, ?_⟩, hbf.mono fun k _ hk => hS k hk, ?_, ?_⟩
  · exact heap_set hp3 1 _
  · show ArP _ _ _ _ _ _ ((x.rs ++ [_]).map slotOf)
    rw [List.map_append]
    have hb3' : But (fun k => k = p ∨ x.vi.ownBlock = some k) w2 (w3.setCell ⟨p, 1, none⟩ vi') := But.setCell (hb3.mono fun _ _ h => .inr h) (fun _ => .inl rfl) _
    refine ar.but hb3' ?_ (fun k hk => ?_)
    · rintro (e | e)
      · exact heap_ne h.ar.blk h.blk (by decide) e
      · exact hviA _ e (.inl rfl)
    · obtain ⟨d, hd⟩ := ar.own.ty hk
      rintro (rfl | e)
      · exact heap_ne hd hp2 (by decide) rfl
      · obtain ⟨d', hd'⟩ := h.ids.ty e
        exact heap_ne hd ((hb2.block k (heap_lt hd') (hviA k e)).trans hd') (by decide) rfl
  · show kI.Own _ B vi' (idsOf ((x.rs ++ [_]).map Rw.nd))
    have e : idsOf ((x.rs ++ [(⟨g, ⟨none, 0, 0⟩, ⟨none, 0, 0⟩, newN (x.n + 1) tag txt key⟩ : Rw)]).map Rw.nd) = idsOf x.l ++ [x.n + 1] := by simp [idsOf, Dx.l, newN]
    rw [e]
    refine hids.keep fun k hk => Below.heap_setCell _ _ _ _ ?_
    rintro rfl
    obtain ⟨d, hd⟩ := hids.ty hk
    exact heap_ne hd hp3 (by decide) rfl
  · intro r hr
    rcases List.mem_append.1 hr with hr | hr
    · exact kb r hr
    · rw [List.mem_singleton] at hr
      subst hr
      exact nd0
  · intro r hr
    rcases List.mem_append.1 hr with hr | hr
    · intro k hk e
      rcases hvi k hk with e2 | e2
      · exact h.apV r hr k e2 e
      · have := ((h.nodes r hr).kids.lt e).2; omega
    · rw [List.mem_singleton] at hr
      subst hr
      intro k _ e
      cases e
  · refine List.pairwise_append.2 ⟨h.pw, List.pairwise_singleton _ _, fun r hr s hs => ?_⟩
    rw [List.mem_singleton] at hs
    subst hs
    exact ⟨fun e => hfr r.b (.inr (.inr (.inr (.inr ⟨r, hr, .inl rfl⟩)))) e, fun k _ e => by cases e⟩
  · intro k hk
    rcases hk with e | e | e | e | ⟨r, hr, e⟩
    · exact .inl (.inl e)
    · exact .inl (.inr (.inl e))
    · rcases hv k e with e2 | e2
      · exact .inl (.inr (.inr (.inl e2)))
      · exact .inr (.inr e2)
    · rcases hvi k e with e2 | e2
      · exact .inl (.inr (.inr (.inr (.inl e2))))
      · exact .inr (.inr (by omega))
    · rcases List.mem_append.1 hr with hr | hr
      · exact .inl (.inr (.inr (.inr (.inr ⟨r, hr, e⟩))))
      · rw [List.mem_singleton] at hr
        subst hr
        rcases e with e | e
        · exact .inr (.inl e)
        · cases e
  · show D.mk ((x.rs ++ [_]).map Rw.nd) _ _ _ = D.mk _ _ _ _
    rw [List.map_append]
    rfl
set_option maxHeartbeats 1000000 in
theorem add_full (i : Int) (tag txt key : ByteArray) (w : World) (hn : x.n ≤ 100000) (hl : x.rs.length = x.R) (h : Dc w B p x) : Calls Tryz.prog 33 #[.pointer (some ⟨p, 0, none⟩), .agg #[.int .i64 i, .int .i64 0, .string tag, .string txt, .string key, .slice none 0 0, .slice none 0 0, .int .i64 0]] w fun e w' => e = .returned (.iface 97 (.int .i64 6)) ∧ Below w.heap.size w w' := by
  have q1 := err_neq_nil
  have H := Lib.hid h
  have HN := Lib.hid hl
  have c0 := h.c0
  have hlt := h.lt (.inl rfl : foot p x p)
  have H1 := Lib.hid (h.alloc (.cells #[.int .i64 i, .int .i64 0, .string tag, .string txt, .string key, .slice none 0 0, .slice none 0 0, .int .i64 0] 34))
  clear h hl
  go_enter Tryz.func33, Tryz.ntmps33
  go_wp2_with fail
  refine (next_any _ hn rfl H1.out).mono ?_
  rintro e w' ⟨rfl, rfl⟩
  go_wp2_with fail
  have b2 : Below w.heap.size w (w.alloc (.cells #[.int .i64 (x.n + 1), .int .i64 0, .string tag, .string txt, .string key, .slice none 0 0, .slice none 0 0, .int .i64 0] 34)) := (Below.refl _ _).alloc (Nat.le_refl _) _
  have B2 := Lib.hid b2
  have H2 := Lib.hid (H.out.below b2)
  clear b2
  refine (putP_full w.heap.size _ (by simp [HN.out]) H2.out.ar).mono ?_
  rintro e w3 ⟨rfl, b3⟩
  have B3 := Lib.hid (B2.out.trans (b3.mono B2.out.size))
  clear b3
  go_wp2_with fail
  go_ret
  exact ⟨rfl, B3.out⟩
def Added (w : World) (B p : Nat) (x : Dx) (tag txt key : ByteArray) (e : Ending) (w' : World) : Prop := Made w B p x .nilIface { x.d with l := x.d.l ++ [newN (x.n + 1) tag txt key], n := x.n + 1 } e w'
set_option maxHeartbeats 1000000 in
theorem add_yes (i : Int) (tag txt key : ByteArray) (w : World) (hn : x.n ≤ 100000) (hl : x.rs.length < x.R) (h : Dc w B p x) : Calls Tryz.prog 33 #[.pointer (some ⟨p, 0, none⟩), .agg #[.int .i64 i, .int .i64 0, .string tag, .string txt, .string key, .slice none 0 0, .slice none 0 0, .int .i64 0]] w (Added w B p x tag txt key) := by
  have q1 := nil_neq_nil
  have H := Lib.hid h
  have HN := Lib.hid hl
  have c0 := h.c0
  have hlt := h.lt (.inl rfl : foot p x p)
  have H1 := Lib.hid (h.alloc (.cells #[.int .i64 i, .int .i64 0, .string tag, .string txt, .string key, .slice none 0 0, .slice none 0 0, .int .i64 0] 34))
  have hR := h.ar.room
  clear h hl
  go_enter Tryz.func33, Tryz.ntmps33
  go_wp2_with fail
  refine (next_any _ hn rfl H1.out).mono ?_
  rintro e w' ⟨rfl, rfl⟩
  go_wp2_with fail
  have b2 : Below w.heap.size w (w.alloc (.cells #[.int .i64 (x.n + 1), .int .i64 0, .string tag, .string txt, .string key, .slice none 0 0, .slice none 0 0, .int .i64 0] 34)) := (Below.refl _ _).alloc (Nat.le_refl _) _
  have B2 := Lib.hid b2
  have H2 := Lib.hid (H.out.below b2)
  have G2 : Hid ((w.alloc (.cells #[.int .i64 (x.n + 1), .int .i64 0, .string tag, .string txt, .string key, .slice none 0 0, .slice none 0 0, .int .i64 0] 34)).heap[w.heap.size]? = some (.cells #[.int .i64 (x.n + 1), .int .i64 0, .string tag, .string txt, .string key, .slice none 0 0, .slice none 0 0, .int .i64 0] 34 (0, 0))) := Lib.hid (heap_alloc_new w _)
  clear b2
  generalize w.alloc (.cells #[.int .i64 (x.n + 1), .int .i64 0, .string tag, .string txt, .string key, .slice none 0 0, .slice none 0 0, .int .i64 0] 34) = W at B2 H2 G2 ⊢
  refine (putP_yes w.heap.size W (by simpa using HN.out) hn H2.out.ar).mono ?_
  rintro e w3 ⟨rfl, v', a3, b3, hv3⟩
  have hgw : w.heap.size < W.heap.size := heap_lt G2.out
  have NA : Hid (¬ Arm x.a x.v w.heap.size) := Lib.hid (H2.out.ar.other G2.out (by decide) (by decide))
  have hpA : ¬ Arm x.a x.v p := by
    have hb := H2.out.blk
    exact H2.out.ar.other hb (by decide) (by decide)
  have A3 := Lib.hid a3
  have B3 := Lib.hid b3
  have V3 := Lib.hid hv3
  have k3 : w3.heap[p]? = _ := (b3.block p (heap_lt H2.out.blk) hpA).trans H2.out.blk
  have K3 := Lib.hid k3
  have G3 : Hid (w3.heap[w.heap.size]? = _) := Lib.hid ((b3.block _ hgw NA.out).trans G2.out)
  have I3 : Hid (kI.Own w3 B x.vi (idsOf x.l)) := Lib.hid (H2.out.ids.but b3 (fun g hg => by
    obtain ⟨d, hd⟩ := H2.out.ids.ty hg
    exact H2.out.ar.other hd (by decide) (by decide)))
  have d1 : w3.cell? ⟨p, 1, none⟩ = some x.vi := cell_of_row w3 p 1 _ _ (0, 0) k3
  have e0 : w3.cell? ⟨w.heap.size, 0, none⟩ = some (.int .i64 (x.n + 1)) := cell_of_row w3 _ 0 _ _ (0, 0) G3.out
  have d0 : w3.cell? ⟨p, 0, none⟩ = some (.pointer (some ⟨x.a, 0, none⟩)) := cell_of_row w3 p 0 _ _ (0, 0) k3
  have hlt3 : p < w3.heap.size := heap_lt k3
  have hBw : B ≤ w3.heap.size := by have := H.out.base; omega
  obtain ⟨Ai, ni, ci, hvi, _⟩ := I3.out.slice
  have HVI := Lib.hid hvi
  rw [hvi] at d1
  have hni : (idsOf x.l).length + 1 ≤ 1000 := by simp [idsOf, Dx.l]; have := HN.out; omega
  have HPN : Hid (some p ≠ (Value.slice Ai ni ci).ownBlock) := Lib.hid (by rw [← hvi]; exact own_not I3.out k3 (by decide))
  have HGN : Hid (some w.heap.size ≠ (Value.slice Ai ni ci).ownBlock) := Lib.hid (by rw [← hvi]; exact own_not I3.out G3.out (by decide))
  have J3 : Hid (kI.Own w3 B (.slice Ai ni ci) (idsOf x.l)) := Lib.hid (by rw [← hvi]; exact I3.out)
  have hgw3 : w.heap.size < w3.heap.size := heap_lt G3.out
  clear a3 b3 hv3 k3 c0 hpA hvi
  go_wp2_with fail
  go_region_law (refine kI.step_app rfl (.tmp 25) (.tmp 28) rfl (v := .slice Ai ni ci) (l := idsOf x.l) (m := [x.n + 1]) (B := B) (A := some ⟨w3.heap.size, 0, none⟩) (n := 1) (c := 1) (by simp [Act.eval, Act.put]) (by repeat (first | exact J3.out | refine Kind.Own.alloc ?_ _ | refine Kind.Own.drew ?_)) (by simp [Act.eval, Act.put]) rfl (fun e => by cases e) (Kind.Holds.lit (by first | exact heap_drew (heap_top rfl) | exact heap_top rfl) rfl) (by simp; omega) (by simp; omega) ?_; intro v4 w4 hown hgrow hat; obtain ⟨A4, n4, c4, rfl, _, _, _, _, _⟩ := hown.slice; have kp : w4.heap[p]? = some (.cells #[.pointer (some ⟨x.a, 0, none⟩), x.vi, .int .i64 x.foc] 90 (0, 0)) := (hgrow.block p (by simp; omega) HPN.out).trans (by exact heap_up K3.out); have e1 : w4.cell? ⟨p, 1, none⟩ = some (.slice Ai ni ci) := (cell_of_row w4 p 1 _ _ (0, 0) kp).trans (by rw [HVI.out]; rfl); have f1 : w4.frozen? ⟨p, 1, none⟩ = false := (by simp [World.frozen?, kp]); have O4 := Lib.hid hown; have G4 := Lib.hid hgrow; have AT4 := Lib.hid hat; clear hown hgrow hat kp)
  all_goals
    go_wp2_with fail
    go_ret
    have hb3 : But (fun k => x.vi.ownBlock = some k) w3 w4 := by
      rw [HVI.out]
      refine But.trans (S := fun k => (Value.slice Ai ni ci).ownBlock = some k) ?_ (But.of_grown (S := fun k => (Value.slice Ai ni ci).ownBlock = some k) G4.out (fun g hg _ => hg)) (fun _ _ h => h)
      repeat (first | exact But.refl _ _ | refine But.drew ?_ | refine But.alloc ?_ _)
    have hvi4 : ∀ k, (Value.slice A4 n4 c4).ownBlock = some k → x.vi.ownBlock = some k ∨ w3.heap.size ≤ k := by
      intro k hk
      rcases AT4.out with e | e
      · rw [e, ← HVI.out] at hk; exact .inl hk
      · rw [e] at hk
        simp at hk
        exact .inr (by omega)
    obtain ⟨x', h1, h2, h3, h4⟩ := add_end H2.out B3.out G3.out (by have := H.out.base; omega) (fun k hk => by have := H.out.lt hk; omega) NA.out A3.out V3.out hb3 O4.out hvi4
    refine ⟨rfl, x', ⟨h1, (But.of_below B2.out _).trans h2 (fun _ _ h => h), fun k hk => ?_⟩, h4⟩
    have := B2.out.size
    rcases h3 k hk with e | e | e
    · exact .inl e
    · exact .inr (by omega)
    · exact .inr (by omega)
end Go.Proofs.YtihjdmdafiifhaaGreat.P5
