/- Errors told apart; the law's Code and Pick. No condition. -/
import Derived.Lib.IfaceEq
import Derived.WideLaws
import Derived.Test.YtkagaobelhpojaaGreatM2
import Derived.Test.YtkagaobelhpojaaGreatM13
set_option linter.unusedVariables false
set_option linter.unusedSimpArgs false
namespace Go.Proofs.YtkagaobelhpojaaGreat.P4
open Go.RowKit Kd

theorem err_eql (a b : Int) (w : World) : (binOp .eql 37 (.iface 41 (.int .i64 a)) (.iface 41 (.int .i64 b))).run Tryz.prog w = .ok (.bool (a == b)) w :=
  Lib.run_eql_iface_int w a b Tryz.underlying37 (by kernel_rfl) Tryz.underlying41
theorem err_eql_nil (x : Value) (w : World) : (binOp .eql 37 (.iface 41 x) .nilIface).run Tryz.prog w = .ok (.bool false) w := run_eql_held_nil _ _ _ _ (by kernel_rfl)
theorem err_neq_nil (x : Value) (w : World) : (binOp .neq 37 (.iface 41 x) .nilIface).run Tryz.prog w = .ok (.bool true) w := run_neq_held_nil _ _ _ _ (by kernel_rfl)
theorem nil_eql_nil (w : World) : (binOp .eql 37 .nilIface .nilIface).run Tryz.prog w = .ok (.bool true) w := Go.run_eql_nil_nil _ _ (by kernel_rfl)
theorem nil_neq_nil (w : World) : (binOp .neq 37 .nilIface .nilIface).run Tryz.prog w = .ok (.bool false) w := Go.run_neq_nil_nil _ _ (by kernel_rfl)

set_option maxHeartbeats 400000 in
/-- of one of api's errors its number -/
theorem code_any (m : Nat) (h1 : 1 ≤ m) (h13 : m ≤ 13) (w : World) : Calls Tryz.prog 13 #[.iface 41 (.int .i64 m)] w fun e w' => e = .returned (.int .i64 m) ∧ w = w' := by
  have q1 := err_eql_nil
  have q2 := err_eql
  go_enter Tryz.func13, Tryz.ntmps13
  go_wp2
  go_loop [3] (fun i => ∃ k : Nat, 1 ≤ k ∧ k ≤ m ∧ i = .int .i64 k) (fun i => m - (intOf i).toNat)
  case atStart => exact ⟨1, by omega, h1, rfl⟩
  case round =>
    obtain ⟨k, hk1, hkm, rfl⟩ := hrel
    by_cases hlt : k < m
    · have hne : ((m : Int) == (k : Int)) = false := beq_eq_false_iff_ne.2 (by omega)
      go_wp2
      go_round
      case rel => exact ⟨k + 1, by omega, by omega, by go_num⟩
      case measure => simp [intOf]; omega
    · obtain rfl : k = m := by omega
      go_wp2
      go_ret
      exact ⟨rfl, rfl⟩
end Go.Proofs.YtkagaobelhpojaaGreat.P4

/- A node more, or the error; whether one may be made; a new document. -/
namespace Go.Proofs.YtkagaobelhpojaaGreat.P5
open Go.RowKit Kd P4
variable {B p : Nat} {x : Dx}

theorem heap_top {w : World} {o : Obj} {g : Nat} (h : g = w.heap.size) : (w.alloc o).heap[g]? = some o := by subst h; exact heap_alloc_new w o
theorem heap_drew {w : World} {o : Obj} {g : Nat} (h : w.heap[g]? = some o) : w.drew.heap[g]? = some o := h

/-! ### add -/
theorem add_end {w w2 w3 : World} {g : Nat} {v' vi' : Value} {tag txt key : ByteArray} (h : Dc w B p x)
    (hb2 : But (Arm x.a x.v) w w2) (hg : w2.heap[g]? = some (.cells #[.int .i64 (x.n + 1), .int .i64 0, .string tag, .string txt, .string key, .slice none 0 0, .slice none 0 0, .int .i64 0] 81 (0, 0))) (hgw : B ≤ g) (hfr : ∀ k, foot p x k → k ≠ g) (hgl : ¬ Arm x.a x.v g)
    (ar : ArP w2 B x.a x.R (x.n + 1) v' (x.rs.map slotOf ++ [⟨x.n + 1, g⟩])) (hv : ∀ k, v'.ownBlock = some k → x.v.ownBlock = some k ∨ w.heap.size ≤ k)
    (hb3 : But (fun k => x.vi.ownBlock = some k) w2 w3) (hids : kI.Own w3 B vi' (idsOf x.l ++ [x.n + 1])) (hvi : ∀ k, vi'.ownBlock = some k → x.vi.ownBlock = some k ∨ w2.heap.size ≤ k) :
    ∃ x', Dc (w3.setCell ⟨p, 1, none⟩ vi') B p x' ∧ But (foot p x) w (w3.setCell ⟨p, 1, none⟩ vi') ∧ (∀ k, foot p x' k → foot p x k ∨ k = g ∨ w.heap.size ≤ k) ∧ x'.d = { x.d with l := x.d.l ++ [newN (x.n + 1) tag txt key], n := x.n + 1 } := by
  have hpA : ¬ Arm x.a x.v p := by
    rintro (e | e)
    · exact heap_ne h.blk h.ar.blk (by decide) e
    · obtain ⟨d, hd⟩ := h.ar.own.ty e
      exact heap_ne h.blk hd (by decide) rfl
  have hviA : ∀ k, x.vi.ownBlock = some k → ¬ Arm x.a x.v k := fun k hk => by
    obtain ⟨d, hd⟩ := h.ids.ty hk
    exact h.ar.other hd (by decide) (by decide)
  have hp2 : w2.heap[p]? = _ := (hb2.block p (heap_lt h.blk) hpA).trans h.blk
  have hpvi : x.vi.ownBlock ≠ some p := fun e => by
    obtain ⟨d, hd⟩ := h.ids.ty e
    exact heap_ne hd h.blk (by decide) rfl
  have hp3 : w3.heap[p]? = _ := (hb3.block p (heap_lt hp2) hpvi).trans hp2
  have hb23 : But (fun k => Arm x.a x.v k ∨ x.vi.ownBlock = some k) w w3 := (hb2.mono fun _ _ h => .inl h).trans hb3 fun _ _ h => .inr h
  have hbf : But (fun k => k = p ∨ Arm x.a x.v k ∨ x.vi.ownBlock = some k) w (w3.setCell ⟨p, 1, none⟩ vi') := But.setCell (hb23.mono fun _ _ h => .inr h) (fun _ => .inl rfl) _
  have hS : ∀ k, (k = p ∨ Arm x.a x.v k ∨ x.vi.ownBlock = some k) → foot p x k := by
    rintro k (e | (e | e) | e)
    · exact .inl e
    · exact .inr (.inl e)
    · exact .inr (.inr (.inl e))
    · exact .inr (.inr (.inr (.inl e)))
  have hsz2 : w.heap.size ≤ w2.heap.size := hb2.size
  have hgp : g ≠ p := heap_ne hg hp2 (by decide)
  have hgvi : x.vi.ownBlock ≠ some g := fun e => hfr g (.inr (.inr (.inr (.inl e)))) rfl
  have hg3 : (w3.setCell ⟨p, 1, none⟩ vi').heap[g]? = some (.cells #[.int .i64 (x.n + 1), .int .i64 0, .string tag, .string txt, .string key, .slice none 0 0, .slice none 0 0, .int .i64 0] 81 (0, 0)) := (Below.heap_setCell _ _ _ _ hgp).trans ((hb3.block g (heap_lt hg) hgvi).trans hg)
  have nd0 : NdAt (w3.setCell ⟨p, 1, none⟩ vi') B ⟨g, ⟨none, 0, 0⟩, ⟨none, 0, 0⟩, newN (x.n + 1) tag txt key⟩ := ⟨hg3, hgw, AOk.nil_ _, Kind.Own.nil _ _ _⟩
  have kb : ∀ r ∈ x.rs, NdAt (w3.setCell ⟨p, 1, none⟩ vi') B r := by
    intro r hr
    have hn := h.nodes r hr
    refine hn.keep (hbf.block _ hn.lt ?_) (fun k hk => ?_) (hn.att.but hbf (fun k c f hk => h.noA k c f (hS k hk)))
    · rintro (e | e | e)
      · exact heap_ne hn.blk (e ▸ h.blk) (by decide) rfl
      · exact h.ar.other hn.blk (by decide) (by decide) e
      · obtain ⟨d, hd⟩ := h.ids.ty e
        exact heap_ne hn.blk hd (by decide) rfl
    · obtain ⟨c, hc⟩ := hn.kids.ty hk
      refine hbf.block _ (heap_lt hc) ?_
      rintro (e | e | e)
      · exact heap_ne hc (e ▸ h.blk) (by decide) rfl
      · exact h.ar.other hc (by decide) (by decide) e
      · exact h.apV r hr k e hk
  refine ⟨⟨x.a, v', vi', x.R, x.n + 1, x.foc, x.rs ++ [⟨g, ⟨none, 0, 0⟩, ⟨none, 0, 0⟩, newN (x.n + 1) tag txt key⟩]⟩, ⟨?_, h.base, ?_, ?_, ?_, ?_, ?_⟩, hbf.mono fun k _ hk => hS k hk, ?_, ?_⟩
  · exact heap_set hp3 1 _
  · show ArP _ _ _ _ _ _ ((x.rs ++ [_]).map slotOf)
    rw [List.map_append]
    have hb3' : But (fun k => k = p ∨ x.vi.ownBlock = some k) w2 (w3.setCell ⟨p, 1, none⟩ vi') := But.setCell (hb3.mono fun _ _ h => .inr h) (fun _ => .inl rfl) _
    refine ar.but hb3' ?_ (fun k hk => ?_)
    · rintro (e | e)
      · exact heap_ne h.ar.blk h.blk (by decide) e
      · exact hviA _ e (.inl rfl)
    · obtain ⟨d, hd⟩ := ar.own.ty hk
      rintro (rfl | e)
      · exact heap_ne hd hp2 (by decide) rfl
      · obtain ⟨d', hd'⟩ := h.ids.ty e
        exact heap_ne hd ((hb2.block k (heap_lt hd') (hviA k e)).trans hd') (by decide) rfl
  · show kI.Own _ B vi' (idsOf ((x.rs ++ [_]).map Rw.nd))
    have e : idsOf ((x.rs ++ [(⟨g, ⟨none, 0, 0⟩, ⟨none, 0, 0⟩, newN (x.n + 1) tag txt key⟩ : Rw)]).map Rw.nd) = idsOf x.l ++ [x.n + 1] := by simp [idsOf, Dx.l, newN]
    rw [e]
    refine hids.keep fun k hk => Below.heap_setCell _ _ _ _ ?_
    rintro rfl
    obtain ⟨d, hd⟩ := hids.ty hk
    exact heap_ne hd hp3 (by decide) rfl
  · intro r hr
    rcases List.mem_append.1 hr with hr | hr
    · exact kb r hr
    · rw [List.mem_singleton] at hr
      subst hr
      exact nd0
  · intro r hr
    rcases List.mem_append.1 hr with hr | hr
    · intro k hk e
      rcases hvi k hk with e2 | e2
      · exact h.apV r hr k e2 e
      · have := ((h.nodes r hr).kids.lt e).2; omega
    · rw [List.mem_singleton] at hr
      subst hr
      intro k _ e
      cases e
  · refine List.pairwise_append.2 ⟨h.pw, List.pairwise_singleton _ _, fun r hr s hs => ?_⟩
    rw [List.mem_singleton] at hs
    subst hs
    exact ⟨fun e => hfr r.b (.inr (.inr (.inr (.inr ⟨r, hr, .inl rfl⟩)))) e, fun k _ e => by cases e⟩
  · intro k hk
    rcases hk with e | e | e | e | ⟨r, hr, e⟩
    · exact .inl (.inl e)
    · exact .inl (.inr (.inl e))
    · rcases hv k e with e2 | e2
      · exact .inl (.inr (.inr (.inl e2)))
      · exact .inr (.inr e2)
    · rcases hvi k e with e2 | e2
      · exact .inl (.inr (.inr (.inr (.inl e2))))
      · exact .inr (.inr (by omega))
    · rcases List.mem_append.1 hr with hr | hr
      · exact .inl (.inr (.inr (.inr (.inr ⟨r, hr, e⟩))))
      · rw [List.mem_singleton] at hr
        subst hr
        rcases e with e | e
        · exact .inr (.inl e)
        · cases e
  · show D.mk ((x.rs ++ [_]).map Rw.nd) _ _ _ = D.mk _ _ _ _
    rw [List.map_append]
    rfl
set_option maxHeartbeats 1000000 in
theorem add_full (i : Int) (tag txt key : ByteArray) (w : World) (hn : x.n ≤ 100000) (hl : x.rs.length = x.R) (h : Dc w B p x) : Calls Tryz.prog 49 #[.pointer (some ⟨p, 0, none⟩), .agg #[.int .i64 i, .int .i64 0, .string tag, .string txt, .string key, .slice none 0 0, .slice none 0 0, .int .i64 0]] w fun e w' => e = .returned (.iface 41 (.int .i64 6)) ∧ Below w.heap.size w w' := by
  have q1 := err_neq_nil
  have H := Lib.hid h
  have HN := Lib.hid hl
  have c0 := h.c0
  have hlt := h.lt (.inl rfl : foot p x p)
  have H1 := Lib.hid (h.alloc (.cells #[.int .i64 i, .int .i64 0, .string tag, .string txt, .string key, .slice none 0 0, .slice none 0 0, .int .i64 0] 81))
  clear h hl
  go_enter Tryz.func49, Tryz.ntmps49
  go_wp2_with fail
  refine (next_any _ hn rfl H1.out).mono ?_
  rintro e w' ⟨rfl, rfl⟩
  go_wp2_with fail
  have b2 : Below w.heap.size w (w.alloc (.cells #[.int .i64 (x.n + 1), .int .i64 0, .string tag, .string txt, .string key, .slice none 0 0, .slice none 0 0, .int .i64 0] 81)) := (Below.refl _ _).alloc (Nat.le_refl _) _
  have B2 := Lib.hid b2
  have H2 := Lib.hid (H.out.below b2)
  clear b2
  refine (putP_full w.heap.size _ (by simp [HN.out]) H2.out.ar).mono ?_
  rintro e w3 ⟨rfl, b3⟩
  have B3 := Lib.hid (B2.out.trans (b3.mono B2.out.size))
  clear b3
  go_wp2_with fail
  go_ret
  exact ⟨rfl, B3.out⟩
def Added (w : World) (B p : Nat) (x : Dx) (tag txt key : ByteArray) (e : Ending) (w' : World) : Prop := Made w B p x .nilIface { x.d with l := x.d.l ++ [newN (x.n + 1) tag txt key], n := x.n + 1 } e w'
set_option maxHeartbeats 1000000 in
theorem add_yes (i : Int) (tag txt key : ByteArray) (w : World) (hn : x.n ≤ 100000) (hl : x.rs.length < x.R) (h : Dc w B p x) : Calls Tryz.prog 49 #[.pointer (some ⟨p, 0, none⟩), .agg #[.int .i64 i, .int .i64 0, .string tag, .string txt, .string key, .slice none 0 0, .slice none 0 0, .int .i64 0]] w (Added w B p x tag txt key) := by
  have q1 := nil_neq_nil
  have H := Lib.hid h
  have HN := Lib.hid hl
  have c0 := h.c0
  have hlt := h.lt (.inl rfl : foot p x p)
  have H1 := Lib.hid (h.alloc (.cells #[.int .i64 i, .int .i64 0, .string tag, .string txt, .string key, .slice none 0 0, .slice none 0 0, .int .i64 0] 81))
  have hR := h.ar.room
  clear h hl
  go_enter Tryz.func49, Tryz.ntmps49
  go_wp2_with fail
  refine (next_any _ hn rfl H1.out).mono ?_
  rintro e w' ⟨rfl, rfl⟩
  go_wp2_with fail
  have b2 : Below w.heap.size w (w.alloc (.cells #[.int .i64 (x.n + 1), .int .i64 0, .string tag, .string txt, .string key, .slice none 0 0, .slice none 0 0, .int .i64 0] 81)) := (Below.refl _ _).alloc (Nat.le_refl _) _
  have B2 := Lib.hid b2
  have H2 := Lib.hid (H.out.below b2)
  have G2 : Hid ((w.alloc (.cells #[.int .i64 (x.n + 1), .int .i64 0, .string tag, .string txt, .string key, .slice none 0 0, .slice none 0 0, .int .i64 0] 81)).heap[w.heap.size]? = some (.cells #[.int .i64 (x.n + 1), .int .i64 0, .string tag, .string txt, .string key, .slice none 0 0, .slice none 0 0, .int .i64 0] 81 (0, 0))) := Lib.hid (heap_alloc_new w _)
  clear b2
  generalize w.alloc (.cells #[.int .i64 (x.n + 1), .int .i64 0, .string tag, .string txt, .string key, .slice none 0 0, .slice none 0 0, .int .i64 0] 81) = W at B2 H2 G2 ⊢
  refine (putP_yes w.heap.size W (by simpa using HN.out) hn H2.out.ar).mono ?_
  rintro e w3 ⟨rfl, v', a3, b3, hv3⟩
  have hgw : w.heap.size < W.heap.size := heap_lt G2.out
  have NA : Hid (¬ Arm x.a x.v w.heap.size) := Lib.hid (H2.out.ar.other G2.out (by decide) (by decide))
  have hpA : ¬ Arm x.a x.v p := by
    have hb := H2.out.blk
    exact H2.out.ar.other hb (by decide) (by decide)
  have A3 := Lib.hid a3
  have B3 := Lib.hid b3
  have V3 := Lib.hid hv3
  have k3 : w3.heap[p]? = _ := (b3.block p (heap_lt H2.out.blk) hpA).trans H2.out.blk
  have K3 := Lib.hid k3
  have G3 : Hid (w3.heap[w.heap.size]? = _) := Lib.hid ((b3.block _ hgw NA.out).trans G2.out)
  have I3 : Hid (kI.Own w3 B x.vi (idsOf x.l)) := Lib.hid (H2.out.ids.but b3 (fun g hg => by
    obtain ⟨d, hd⟩ := H2.out.ids.ty hg
    exact H2.out.ar.other hd (by decide) (by decide)))
  have d1 : w3.cell? ⟨p, 1, none⟩ = some x.vi := cell_of_row w3 p 1 _ _ (0, 0) k3
  have e0 : w3.cell? ⟨w.heap.size, 0, none⟩ = some (.int .i64 (x.n + 1)) := cell_of_row w3 _ 0 _ _ (0, 0) G3.out
  have d0 : w3.cell? ⟨p, 0, none⟩ = some (.pointer (some ⟨x.a, 0, none⟩)) := cell_of_row w3 p 0 _ _ (0, 0) k3
  have hlt3 : p < w3.heap.size := heap_lt k3
  have hBw : B ≤ w3.heap.size := by have := H.out.base; omega
  obtain ⟨Ai, ni, ci, hvi, _⟩ := I3.out.slice
  have HVI := Lib.hid hvi
  rw [hvi] at d1
  have hni : (idsOf x.l).length + 1 ≤ 1000 := by simp [idsOf, Dx.l]; have := HN.out; omega
  have HPN : Hid (some p ≠ (Value.slice Ai ni ci).ownBlock) := Lib.hid (by rw [← hvi]; exact own_not I3.out k3 (by decide))
  have HGN : Hid (some w.heap.size ≠ (Value.slice Ai ni ci).ownBlock) := Lib.hid (by rw [← hvi]; exact own_not I3.out G3.out (by decide))
  have J3 : Hid (kI.Own w3 B (.slice Ai ni ci) (idsOf x.l)) := Lib.hid (by rw [← hvi]; exact I3.out)
  have hgw3 : w.heap.size < w3.heap.size := heap_lt G3.out
  clear a3 b3 hv3 k3 c0 hpA hvi
  go_wp2_with fail
  go_region_law (refine kI.step_app rfl (.tmp 25) (.tmp 28) rfl (v := .slice Ai ni ci) (l := idsOf x.l) (m := [x.n + 1]) (B := B) (A := some ⟨w3.heap.size, 0, none⟩) (n := 1) (c := 1) (by simp [Act.eval, Act.put]) (by repeat (first | exact J3.out | refine Kind.Own.alloc ?_ _ | refine Kind.Own.drew ?_)) (by simp [Act.eval, Act.put]) rfl (fun e => by cases e) (Kind.Holds.lit (by first | exact heap_drew (heap_top rfl) | exact heap_top rfl) rfl) (by simp; omega) (by simp; omega) ?_; intro v4 w4 hown hgrow hat; obtain ⟨A4, n4, c4, rfl, _, _, _, _, _⟩ := hown.slice; have kp : w4.heap[p]? = some (.cells #[.pointer (some ⟨x.a, 0, none⟩), x.vi, .int .i64 x.foc] 94 (0, 0)) := (hgrow.block p (by simp; omega) HPN.out).trans (by exact heap_up K3.out); have e1 : w4.cell? ⟨p, 1, none⟩ = some (.slice Ai ni ci) := (cell_of_row w4 p 1 _ _ (0, 0) kp).trans (by rw [HVI.out]; rfl); have f1 : w4.frozen? ⟨p, 1, none⟩ = false := (by simp [World.frozen?, kp]); have O4 := Lib.hid hown; have G4 := Lib.hid hgrow; have AT4 := Lib.hid hat; clear hown hgrow hat kp)
  all_goals
    go_wp2_with fail
    go_ret
    have hb3 : But (fun k => x.vi.ownBlock = some k) w3 w4 := by
      rw [HVI.out]
      refine But.trans (S := fun k => (Value.slice Ai ni ci).ownBlock = some k) ?_ (But.of_grown (S := fun k => (Value.slice Ai ni ci).ownBlock = some k) G4.out (fun g hg _ => hg)) (fun _ _ h => h)
      repeat (first | exact But.refl _ _ | refine But.drew ?_ | refine But.alloc ?_ _)
    have hvi4 : ∀ k, (Value.slice A4 n4 c4).ownBlock = some k → x.vi.ownBlock = some k ∨ w3.heap.size ≤ k := by
      intro k hk
      rcases AT4.out with e | e
      · rw [e, ← HVI.out] at hk; exact .inl hk
      · rw [e] at hk
        simp at hk
        exact .inr (by omega)
    obtain ⟨x', h1, h2, h3, h4⟩ := add_end H2.out B3.out G3.out (by have := H.out.base; omega) (fun k hk => by have := H.out.lt hk; omega) NA.out A3.out V3.out hb3 O4.out hvi4
    refine ⟨rfl, x', ⟨h1, (But.of_below B2.out _).trans h2 (fun _ _ h => h), fun k hk => ?_⟩, h4⟩
    have := B2.out.size
    rcases h3 k hk with e | e | e
    · exact .inl e
    · exact .inr (by omega)
    · exact .inr (by omega)
end Go.Proofs.YtkagaobelhpojaaGreat.P5

/- Whether a node may be made; a node that is made, or the error; a new document. -/
namespace Go.Proofs.YtkagaobelhpojaaGreat.P5
open Go.RowKit Kd P4
variable {B p : Nat} {x : Dx}

theorem empty_iff (s : ByteArray) : s.toList.isEmpty = true ↔ s.toList = [] := List.isEmpty_iff
set_option maxHeartbeats 1000000 in
theorem mayMake_any (tag txt key : ByteArray) (w : World) (h1 : tag.size ≤ maxLen) (h2 : txt.size ≤ maxLen) (h3 : key.size ≤ maxLen) :
    Calls Tryz.prog 76 #[.string tag, .string txt, .string key] w fun e w' => e = .returned (.bool (mayMake tag txt key)) ∧ w = w' := by
  cases ht : tag.toList.isEmpty with
  | true =>
    have hT := (empty_iff tag).1 ht
    cases hx : P1.textB txt.data.toList with
    | false =>
      have HM : Hid (mayMake tag txt key = false) := Lib.hid (by unfold mayMake; rw [if_pos hT, hx]; rfl)
      have HX := Lib.hid hx
      clear hx hT
      go_enter Tryz.func76, Tryz.ntmps76
      go_wp2_with fail
      refine (P3.ntext_at txt w HX.out h2).mono ?_
      rintro e w' ⟨rfl, rfl⟩
      go_wp2_with fail
      go_ret
      exact ⟨ret_bool HM.out.symm, rfl⟩
    | true =>
      cases hk : key.toList.isEmpty with
      | false =>
        have HM : Hid (mayMake tag txt key = false) := Lib.hid (by unfold mayMake; rw [if_pos hT, hx]; simpa using (fun e => by rw [← empty_iff, hk] at e; cases e))
        have HX := Lib.hid hx
        clear hx hT
        go_enter Tryz.func76, Tryz.ntmps76
        go_wp2_with fail
        refine (P3.ntext_at txt w HX.out h2).mono ?_
        rintro e w' ⟨rfl, rfl⟩
        go_wp2_with fail
        go_ret
        exact ⟨ret_bool HM.out.symm, rfl⟩
      | true =>
        have HM : Hid (mayMake tag txt key = true) := Lib.hid (by unfold mayMake; rw [if_pos hT, hx]; simpa using (empty_iff key).1 hk)
        have HX := Lib.hid hx
        clear hx hT
        go_enter Tryz.func76, Tryz.ntmps76
        go_wp2_with fail
        refine (P3.ntext_at txt w HX.out h2).mono ?_
        rintro e w' ⟨rfl, rfl⟩
        go_wp2_with fail
        go_ret
        exact ⟨ret_bool HM.out.symm, rfl⟩
  | false =>
    have hT : ¬ tag.toList = [] := by rw [← empty_iff, ht]; simp
    cases hn : P1.nameB tag.data.toList with
    | false =>
      have HM : Hid (mayMake tag txt key = false) := Lib.hid (by unfold mayMake; rw [if_neg hT, hn]; rfl)
      have HX := Lib.hid hn
      clear hn hT
      go_enter Tryz.func76, Tryz.ntmps76
      go_wp2_with fail
      refine (P3.nmay_at tag w HX.out h1).mono ?_
      rintro e w' ⟨rfl, rfl⟩
      go_wp2_with fail
      go_ret
      exact ⟨ret_bool HM.out.symm, rfl⟩
    | true =>
      cases hk : P1.textB key.data.toList with
      | false =>
        have HM : Hid (mayMake tag txt key = false) := Lib.hid (by unfold mayMake; rw [if_neg hT, hn, hk]; rfl)
        have HX := Lib.hid hn
        have HK := Lib.hid hk
        clear hn hT hk
        go_enter Tryz.func76, Tryz.ntmps76
        go_wp2_with fail
        refine (P3.nmay_at tag w HX.out h1).mono ?_
        rintro e w' ⟨rfl, rfl⟩
        go_wp2_with fail
        refine (P3.ntext_at key w HK.out h3).mono ?_
        rintro e w' ⟨rfl, rfl⟩
        go_wp2_with fail
        go_ret
        exact ⟨ret_bool HM.out.symm, rfl⟩
      | true =>
        cases hx : txt.toList.isEmpty with
        | false =>
          have HM : Hid (mayMake tag txt key = false) := Lib.hid (by unfold mayMake; rw [if_neg hT, hn, hk]; simpa using (fun e => by rw [← empty_iff, hx] at e; cases e))
          have HX := Lib.hid hn
          have HK := Lib.hid hk
          clear hn hT hk
          go_enter Tryz.func76, Tryz.ntmps76
          go_wp2_with fail
          refine (P3.nmay_at tag w HX.out h1).mono ?_
          rintro e w' ⟨rfl, rfl⟩
          go_wp2_with fail
          refine (P3.ntext_at key w HK.out h3).mono ?_
          rintro e w' ⟨rfl, rfl⟩
          go_wp2_with fail
          go_ret
          exact ⟨ret_bool HM.out.symm, rfl⟩
        | true =>
          have HM : Hid (mayMake tag txt key = true) := Lib.hid (by unfold mayMake; rw [if_neg hT, hn, hk]; simpa using (empty_iff txt).1 hx)
          have HX := Lib.hid hn
          have HK := Lib.hid hk
          clear hn hT hk
          go_enter Tryz.func76, Tryz.ntmps76
          go_wp2_with fail
          refine (P3.nmay_at tag w HX.out h1).mono ?_
          rintro e w' ⟨rfl, rfl⟩
          go_wp2_with fail
          refine (P3.ntext_at key w HK.out h3).mono ?_
          rintro e w' ⟨rfl, rfl⟩
          go_wp2_with fail
          go_ret
          exact ⟨ret_bool HM.out.symm, rfl⟩
theorem mayMake_at (tag txt key : ByteArray) {r : Bool} (w : World) (hr : mayMake tag txt key = r) (h1 : tag.size ≤ maxLen) (h2 : txt.size ≤ maxLen) (h3 : key.size ≤ maxLen) :
    Calls Tryz.prog 76 #[.string tag, .string txt, .string key] w fun e w' => e = .returned (.bool r) ∧ w = w' := by
  subst hr; exact mayMake_any tag txt key w h1 h2 h3

/-! ### create -/
set_option maxHeartbeats 1000000 in
theorem create_id (op i pa be : Int) (tag txt key : ByteArray) (A : Option Addr) (n c : Nat) (w : World) (hn : x.n ≤ 100000) (hi : (i != x.n + 1) = true) (h : Dc w B p x) : Calls Tryz.prog 50 #[.pointer (some ⟨p, 0, none⟩), .agg #[.int .i64 op, .int .i64 i, .int .i64 pa, .int .i64 be, .string tag, .string txt, .string key, .slice A n c]] w fun e w' => e = .returned (.iface 41 (.int .i64 1)) ∧ Below w.heap.size w w' := by
  have H := Lib.hid h
  have H1 := Lib.hid (h.alloc (.cells #[.int .i64 op, .int .i64 i, .int .i64 pa, .int .i64 be, .string tag, .string txt, .string key, .slice A n c] 57))
  have QN : Hid (∀ k, Calls Tryz.prog 38 #[.pointer (some ⟨p, 0, none⟩)] ((w.alloc (.cells #[.int .i64 op, .int .i64 i, .int .i64 pa, .int .i64 be, .string tag, .string txt, .string key, .slice A n c] 57)).drewN k) fun e w' => e = .returned (.int .i64 (x.n + 1)) ∧ ∃ m, w' = (w.alloc (.cells #[.int .i64 op, .int .i64 i, .int .i64 pa, .int .i64 be, .string tag, .string txt, .string key, .slice A n c] 57)).drewN m) :=
    Lib.hid (fun k => (next_any _ hn rfl (H1.out.drewN k)).mono fun _ _ ⟨he, hw⟩ => ⟨he, k, hw.symm⟩)
  clear h
  go_enter Tryz.func50, Tryz.ntmps50
  go_wp2_with fail
  go_quiet ((go_at_call 38; exact QN.out _))
  go_wp2_with fail
  go_ret
  exact ⟨rfl, Below_drewN ((Below.refl _ _).alloc (Nat.le_refl _) _) _⟩
set_option maxHeartbeats 1000000 in
theorem create_may (op i pa be : Int) (tag txt key : ByteArray) (A : Option Addr) (n c : Nat) (w : World) (hn : x.n ≤ 100000) (h1 : tag.size ≤ maxLen) (h2 : txt.size ≤ maxLen) (h3 : key.size ≤ maxLen) (hi : (i != x.n + 1) = false) (hm : mayMake tag txt key = false) (h : Dc w B p x) : Calls Tryz.prog 50 #[.pointer (some ⟨p, 0, none⟩), .agg #[.int .i64 op, .int .i64 i, .int .i64 pa, .int .i64 be, .string tag, .string txt, .string key, .slice A n c]] w fun e w' => e = .returned (.iface 41 (.int .i64 1)) ∧ Below w.heap.size w w' := by
  have H := Lib.hid h
  have H1 := Lib.hid (h.alloc (.cells #[.int .i64 op, .int .i64 i, .int .i64 pa, .int .i64 be, .string tag, .string txt, .string key, .slice A n c] 57))
  have QN : Hid (∀ k, Calls Tryz.prog 38 #[.pointer (some ⟨p, 0, none⟩)] ((w.alloc (.cells #[.int .i64 op, .int .i64 i, .int .i64 pa, .int .i64 be, .string tag, .string txt, .string key, .slice A n c] 57)).drewN k) fun e w' => e = .returned (.int .i64 (x.n + 1)) ∧ ∃ m, w' = (w.alloc (.cells #[.int .i64 op, .int .i64 i, .int .i64 pa, .int .i64 be, .string tag, .string txt, .string key, .slice A n c] 57)).drewN m) :=
    Lib.hid (fun k => (next_any _ hn rfl (H1.out.drewN k)).mono fun _ _ ⟨he, hw⟩ => ⟨he, k, hw.symm⟩)
  have QM : Hid (∀ k, Calls Tryz.prog 76 #[.string tag, .string txt, .string key] ((w.alloc (.cells #[.int .i64 op, .int .i64 i, .int .i64 pa, .int .i64 be, .string tag, .string txt, .string key, .slice A n c] 57)).drewN k) fun e w' => e = .returned (.bool false) ∧ ∃ m, w' = (w.alloc (.cells #[.int .i64 op, .int .i64 i, .int .i64 pa, .int .i64 be, .string tag, .string txt, .string key, .slice A n c] 57)).drewN m) :=
    Lib.hid (fun k => (mayMake_at tag txt key _ hm h1 h2 h3).mono fun _ _ ⟨he, hw⟩ => ⟨he, k, hw.symm⟩)
  clear h hm
  go_enter Tryz.func50, Tryz.ntmps50
  go_wp2_with fail
  go_quiet ((first | (go_at_call 38; exact QN.out _) | (go_at_call 76; exact QM.out _)))
  go_wp2_with fail
  go_ret
  exact ⟨rfl, Below_drewN ((Below.refl _ _).alloc (Nat.le_refl _) _) _⟩
set_option maxHeartbeats 1000000 in
theorem create_full (op i pa be : Int) (tag txt key : ByteArray) (A : Option Addr) (n c : Nat) (w : World) (hn : x.n ≤ 100000) (h1 : tag.size ≤ maxLen) (h2 : txt.size ≤ maxLen) (h3 : key.size ≤ maxLen) (hi : (i != x.n + 1) = false) (hm : mayMake tag txt key = true) (hl : x.rs.length = x.R) (h : Dc w B p x) : Calls Tryz.prog 50 #[.pointer (some ⟨p, 0, none⟩), .agg #[.int .i64 op, .int .i64 i, .int .i64 pa, .int .i64 be, .string tag, .string txt, .string key, .slice A n c]] w fun e w' => e = .returned (.iface 41 (.int .i64 6)) ∧ Below w.heap.size w w' := by
  have H := Lib.hid h
  have H1 := Lib.hid (h.alloc (.cells #[.int .i64 op, .int .i64 i, .int .i64 pa, .int .i64 be, .string tag, .string txt, .string key, .slice A n c] 57))
  have QN : Hid (∀ k, Calls Tryz.prog 38 #[.pointer (some ⟨p, 0, none⟩)] ((w.alloc (.cells #[.int .i64 op, .int .i64 i, .int .i64 pa, .int .i64 be, .string tag, .string txt, .string key, .slice A n c] 57)).drewN k) fun e w' => e = .returned (.int .i64 (x.n + 1)) ∧ ∃ m, w' = (w.alloc (.cells #[.int .i64 op, .int .i64 i, .int .i64 pa, .int .i64 be, .string tag, .string txt, .string key, .slice A n c] 57)).drewN m) :=
    Lib.hid (fun k => (next_any _ hn rfl (H1.out.drewN k)).mono fun _ _ ⟨he, hw⟩ => ⟨he, k, hw.symm⟩)
  have QM : Hid (∀ k, Calls Tryz.prog 76 #[.string tag, .string txt, .string key] ((w.alloc (.cells #[.int .i64 op, .int .i64 i, .int .i64 pa, .int .i64 be, .string tag, .string txt, .string key, .slice A n c] 57)).drewN k) fun e w' => e = .returned (.bool true) ∧ ∃ m, w' = (w.alloc (.cells #[.int .i64 op, .int .i64 i, .int .i64 pa, .int .i64 be, .string tag, .string txt, .string key, .slice A n c] 57)).drewN m) :=
    Lib.hid (fun k => (mayMake_at tag txt key _ hm h1 h2 h3).mono fun _ _ ⟨he, hw⟩ => ⟨he, k, hw.symm⟩)
  have HL := Lib.hid hl
  clear h hm hl
  go_enter Tryz.func50, Tryz.ntmps50
  go_wp2_with fail
  go_quiet ((first | (go_at_call 38; exact QN.out _) | (go_at_call 76; exact QM.out _)))
  go_wp2_with fail
  refine (add_full 0 tag txt key _ hn HL.out (H1.out.drewN _)).mono ?_
  rintro e w2 ⟨rfl, b2⟩
  have B2 := Lib.hid ((Below_drewN ((Below.refl _ w).alloc (Nat.le_refl _) _) _).trans (b2.mono (by show w.heap.size ≤ (w.alloc _).heap.size; simp)))
  clear b2
  go_wp2_with fail
  go_ret
  exact ⟨rfl, B2.out⟩
set_option maxHeartbeats 1000000 in
theorem create_yes (op i pa be : Int) (tag txt key : ByteArray) (A : Option Addr) (n c : Nat) (w : World) (hn : x.n ≤ 100000) (h1 : tag.size ≤ maxLen) (h2 : txt.size ≤ maxLen) (h3 : key.size ≤ maxLen) (hi : (i != x.n + 1) = false) (hm : mayMake tag txt key = true) (hl : x.rs.length < x.R) (h : Dc w B p x) : Calls Tryz.prog 50 #[.pointer (some ⟨p, 0, none⟩), .agg #[.int .i64 op, .int .i64 i, .int .i64 pa, .int .i64 be, .string tag, .string txt, .string key, .slice A n c]] w (Added w B p x tag txt key) := by
  have H := Lib.hid h
  have H1 := Lib.hid (h.alloc (.cells #[.int .i64 op, .int .i64 i, .int .i64 pa, .int .i64 be, .string tag, .string txt, .string key, .slice A n c] 57))
  have QN : Hid (∀ k, Calls Tryz.prog 38 #[.pointer (some ⟨p, 0, none⟩)] ((w.alloc (.cells #[.int .i64 op, .int .i64 i, .int .i64 pa, .int .i64 be, .string tag, .string txt, .string key, .slice A n c] 57)).drewN k) fun e w' => e = .returned (.int .i64 (x.n + 1)) ∧ ∃ m, w' = (w.alloc (.cells #[.int .i64 op, .int .i64 i, .int .i64 pa, .int .i64 be, .string tag, .string txt, .string key, .slice A n c] 57)).drewN m) :=
    Lib.hid (fun k => (next_any _ hn rfl (H1.out.drewN k)).mono fun _ _ ⟨he, hw⟩ => ⟨he, k, hw.symm⟩)
  have QM : Hid (∀ k, Calls Tryz.prog 76 #[.string tag, .string txt, .string key] ((w.alloc (.cells #[.int .i64 op, .int .i64 i, .int .i64 pa, .int .i64 be, .string tag, .string txt, .string key, .slice A n c] 57)).drewN k) fun e w' => e = .returned (.bool true) ∧ ∃ m, w' = (w.alloc (.cells #[.int .i64 op, .int .i64 i, .int .i64 pa, .int .i64 be, .string tag, .string txt, .string key, .slice A n c] 57)).drewN m) :=
    Lib.hid (fun k => (mayMake_at tag txt key _ hm h1 h2 h3).mono fun _ _ ⟨he, hw⟩ => ⟨he, k, hw.symm⟩)
  have HL := Lib.hid hl
  clear h hm hl
  go_enter Tryz.func50, Tryz.ntmps50
  go_wp2_with fail
  go_quiet ((first | (go_at_call 38; exact QN.out _) | (go_at_call 76; exact QM.out _)))
  go_wp2_with fail
  refine (add_yes 0 tag txt key _ hn HL.out (H1.out.drewN _)).mono ?_
  rintro e w2 ⟨rfl, x', d2, hd2⟩
  have D2 := Lib.hid d2
  have HD2 := Lib.hid hd2
  clear d2 hd2
  go_wp2_with fail
  go_ret
  exact ⟨rfl, x', (Did.below_ H.out (Below_drewN ((Below.refl _ w).alloc (Nat.le_refl _) _) _)).trans D2.out, HD2.out⟩
theorem create_any (r : Rc) (A : Option Addr) (n c : Nat) (w : World) (hn : x.n ≤ 100000) (h1 : r.tag.size ≤ maxLen) (h2 : r.txt.size ≤ maxLen) (h3 : r.key.size ≤ maxLen) (hR : x.rs.length ≤ x.R) (h : Dc w B p x) :
    Calls Tryz.prog 50 #[.pointer (some ⟨p, 0, none⟩), .agg #[.int .i64 r.op, .int .i64 r.id, .int .i64 r.par, .int .i64 r.bef, .string r.tag, .string r.txt, .string r.key, .slice A n c]] w (Made w B p x (errV (makeD x.d r).1) (makeD x.d r).2) := by
  have hlen : x.d.l.length = x.rs.length := l_len x
  by_cases hi : r.id = x.n + 1
  · have hi2 : (r.id != x.n + 1) = false := by simpa using hi
    cases hm : mayMake r.tag r.txt r.key with
    | false =>
      have hd : makeD x.d r = (1, x.d) := by unfold makeD; exact if_pos (.inr hm)
      rw [hd]
      refine (create_may r.op r.id r.par r.bef r.tag r.txt r.key A n c w hn h1 h2 h3 hi2 hm h).mono ?_
      rintro e w' ⟨rfl, hb⟩
      exact Made.same h hb rfl rfl
    | true =>
      have c1 : ¬ (r.id ≠ x.d.n + 1 ∨ mayMake r.tag r.txt r.key = false) := by
        rintro (e | e)
        · exact e hi
        · rw [hm] at e; cases e
      by_cases hl : x.R ≤ x.rs.length
      · have hd : makeD x.d r = (6, x.d) := by unfold makeD; rw [if_neg c1]; exact if_pos (by rw [hlen]; exact hl)
        rw [hd]
        refine (create_full r.op r.id r.par r.bef r.tag r.txt r.key A n c w hn h1 h2 h3 hi2 hm (by omega) h).mono ?_
        rintro e w' ⟨rfl, hb⟩
        exact Made.same h hb rfl rfl
      · have hd : makeD x.d r = (0, { x.d with l := x.d.l ++ [newN (x.n + 1) r.tag r.txt r.key], n := x.n + 1 }) := by
          unfold makeD; rw [if_neg c1, if_neg (by rw [hlen]; exact hl), hi]; rfl
        rw [hd]
        exact create_yes r.op r.id r.par r.bef r.tag r.txt r.key A n c w hn h1 h2 h3 hi2 hm (by omega) h
  · have hi2 : (r.id != x.n + 1) = true := by simpa using hi
    have hd : makeD x.d r = (1, x.d) := by unfold makeD; exact if_pos (.inl hi)
    rw [hd]
    refine (create_id r.op r.id r.par r.bef r.tag r.txt r.key A n c w hn hi2 h).mono ?_
    rintro e w' ⟨rfl, hb⟩
    exact Made.same h hb rfl rfl

/-! ### New -/
def NewDoc (w : World) (R : Nat) (e : Ending) (w' : World) : Prop :=
  ∃ (p : Nat) (x : Dx), e = .returned (.tuple #[.pointer (some ⟨p, 0, none⟩), .nilIface]) ∧ Dc w' w.heap.size p x ∧ x.d = newD R ∧ Below w.heap.size w w'
set_option maxHeartbeats 1000000 in
theorem newDoc_no (r : Int) (w : World) (h : r < 1 ∨ 200 < r) : Calls Tryz.prog 24 #[.int .i64 r] w fun e w' => e = .returned (.tuple #[.pointer none, .iface 41 (.int .i64 1)]) ∧ w = w' := by
  have q1 := err_neq_nil
  go_enter Tryz.func24, Tryz.ntmps24
  go_wp2_with fail
  refine (newP_no r w h).mono ?_
  rintro e w' ⟨rfl, rfl⟩
  go_wp2_with fail
  go_ret2
  exact ⟨rfl, rfl⟩
set_option maxHeartbeats 1000000 in
theorem newDoc_yes (R : Nat) (w : World) (h1 : 1 ≤ R) (h2 : R ≤ 200) : Calls Tryz.prog 24 #[.int .i64 R] w (NewDoc w R) := by
  have q1 := nil_neq_nil
  go_enter Tryz.func24, Tryz.ntmps24
  go_wp2_with fail
  refine (newP_yes (R : Int) w (by omega) (by omega)).mono ?_
  rintro e w1 ⟨a, rfl, a1, b1⟩
  rw [Int.toNat_natCast] at a1
  have A1 := Lib.hid a1
  have B1 := Lib.hid b1
  clear a1 b1
  go_wp2_with fail
  have dc : Dc (w1.alloc (.cells #[.pointer (some ⟨a, 0, none⟩), .slice none 0 0, .int .i64 0] 94)) w.heap.size w1.heap.size ⟨a, .slice none 0 0, .slice none 0 0, R, 0, 0, []⟩ :=
    ⟨heap_alloc_new w1 _, B1.out.size, A1.out.below ((Below.refl _ _).alloc (Nat.le_refl _) _) (Nat.le_refl _), Kind.Own.nil _ _ _, fun _ h => absurd h (by simp), fun _ h => absurd h (by simp), List.Pairwise.nil⟩
  have DC := Lib.hid dc
  have B2 := Lib.hid (B1.out.alloc B1.out.size (.cells #[.pointer (some ⟨a, 0, none⟩), .slice none 0 0, .int .i64 0] 94))
  clear dc
  refine (add_yes (x := ⟨a, .slice none 0 0, .slice none 0 0, R, 0, 0, []⟩) 0 ⟨#[114, 111, 111, 116]⟩ ⟨#[]⟩ ⟨#[]⟩ _ (by show (0 : Int) ≤ 100000; omega) (by show 0 < R; omega) DC.out).mono ?_
  rintro e w2 ⟨rfl, x', d2, hd2⟩
  have D2 := Lib.hid d2
  have HD2 := Lib.hid hd2
  clear d2 hd2
  go_wp2_with fail
  go_ret2
  exact ⟨_, x', rfl, D2.out.dc, HD2.out, B2.out.trans (D2.out.to_below DC.out)⟩
end Go.Proofs.YtkagaobelhpojaaGreat.P5
