/- A log's calls: New, Do, All; a change with a list of its own. No condition but those stated. -/
import Derived.Deep.DrawnRows
import Derived.Test.YtkagaobelhpojaaGreatM26
import Derived.Test.YtkagaobelhpojaaGreatM31
set_option linter.unusedVariables false
set_option linter.unusedSimpArgs false
namespace Go.Proofs.YtkagaobelhpojaaGreat.P7
open Go.RowKit Kd P4 P5
attribute [local go_sem ↓] Go.wp_at_zero Go.wp_at_succ

def Owned (w : World) (r : Rc) (e : Ending) (w' : World) : Prop := ∃ A n c, e = .returned (.agg #[.int .i64 r.op, .int .i64 r.id, .int .i64 r.par, .int .i64 r.bef, .string r.tag, .string r.txt, .string r.key, .slice A n c]) ∧ AOk w' ⟨A, n, c⟩ r.attrs ∧ Below w.heap.size w w'
set_option maxHeartbeats 1000000 in
theorem own_any (r : Rc) (A : Option Addr) (n c : Nat) (w : World) (hn : r.attrs.length = n) (hn2 : n ≤ 1000000) (hz : A = none → c = 0 ∧ n = 0) (H : kA.Holds w w.heap.size A r.attrs) : Calls Tryz.prog 35 #[.agg #[.int .i64 r.op, .int .i64 r.id, .int .i64 r.par, .int .i64 r.bef, .string r.tag, .string r.txt, .string r.key, .slice A n c]] w (Owned w r) := by
  have B1 : Hid (Below w.heap.size w ((w.alloc (.cells #[.int .i64 r.op, .int .i64 r.id, .int .i64 r.par, .int .i64 r.bef, .string r.tag, .string r.txt, .string r.key, .slice A n c] 57)).alloc (.cells #[.int .i64 0, .int .i64 0, .int .i64 0, .int .i64 0, .string ⟨#[]⟩, .string ⟨#[]⟩, .string ⟨#[]⟩, .slice none 0 0] 57))) := Lib.hid (((Below.refl _ _).alloc (Nat.le_refl _) _).alloc (by simp) _)
  have N1 : Hid (RcB ((w.alloc (.cells #[.int .i64 r.op, .int .i64 r.id, .int .i64 r.par, .int .i64 r.bef, .string r.tag, .string r.txt, .string r.key, .slice A n c] 57)).alloc (.cells #[.int .i64 0, .int .i64 0, .int .i64 0, .int .i64 0, .string ⟨#[]⟩, .string ⟨#[]⟩, .string ⟨#[]⟩, .slice none 0 0] 57)) w.heap.size r A n c) := Lib.hid (heap_up (RcB.new w r A n c))
  have Z1 : Hid (((w.alloc (.cells #[.int .i64 r.op, .int .i64 r.id, .int .i64 r.par, .int .i64 r.bef, .string r.tag, .string r.txt, .string r.key, .slice A n c] 57)).alloc (.cells #[.int .i64 0, .int .i64 0, .int .i64 0, .int .i64 0, .string ⟨#[]⟩, .string ⟨#[]⟩, .string ⟨#[]⟩, .slice none 0 0] 57)).heap[w.heap.size + 1]? = some (.cells #[.int .i64 0, .int .i64 0, .int .i64 0, .int .i64 0, .string ⟨#[]⟩, .string ⟨#[]⟩, .string ⟨#[]⟩, .slice none 0 0] 57 (0, 0))) := Lib.hid (heap_top (by simp))
  have HN := Lib.hid hn
  have HZ := Lib.hid hz
  have HH := Lib.hid H
  clear hn hz H
  go_enter Tryz.func35, Tryz.ntmps35
  go_upto_region 1 with fail
  generalize (w.alloc (.cells #[.int .i64 r.op, .int .i64 r.id, .int .i64 r.par, .int .i64 r.bef, .string r.tag, .string r.txt, .string r.key, .slice A n c] 57)).alloc (.cells #[.int .i64 0, .int .i64 0, .int .i64 0, .int .i64 0, .string ⟨#[]⟩, .string ⟨#[]⟩, .string ⟨#[]⟩, .slice none 0 0] 57) = W at B1 N1 Z1 ⊢
  have a7 := N1.out.c7
  go_wp2_with fail
  refine (cloneAt_any r.attrs A n c W HN.out hn2 HZ.out (HH.out.on B1.out)).mono ?_
  rintro e w2 ⟨A', n', c', rfl, o2, b2⟩
  have O2 := Lib.hid o2
  have B2 := Lib.hid (B1.out.trans (b2.mono B1.out.size))
  have N2 := Lib.hid (N1.out.below b2 N1.out.lt)
  have Z2 : Hid (w2.heap[w.heap.size + 1]? = some (.cells #[.int .i64 0, .int .i64 0, .int .i64 0, .int .i64 0, .string ⟨#[]⟩, .string ⟨#[]⟩, .string ⟨#[]⟩, .slice none 0 0] 57 (0, 0))) := Lib.hid ((b2.block _ (heap_lt Z1.out)).trans Z1.out)
  clear o2 b2 a7 N1 Z1
  have a7 := N2.out.c7
  have f7 : w2.frozen? ⟨w.heap.size, 7, none⟩ = false := by have hb := N2.out; unfold RcB at hb; simp [World.frozen?, hb]
  go_upto_region 2 with fail
  have n2 := N2.out
  unfold RcB at n2
  have N3 : Hid (RcB (w2.setCell ⟨w.heap.size, 7, none⟩ (.slice A' n' c')) w.heap.size r A' n' c') := Lib.hid (by unfold RcB; exact heap_set n2 7 _)
  have Z3 : Hid ((w2.setCell ⟨w.heap.size, 7, none⟩ (.slice A' n' c')).heap[w.heap.size + 1]? = some (.cells #[.int .i64 0, .int .i64 0, .int .i64 0, .int .i64 0, .string ⟨#[]⟩, .string ⟨#[]⟩, .string ⟨#[]⟩, .slice none 0 0] 57 (0, 0))) := Lib.hid ((Below.heap_setCell _ _ _ _ (by simp)).trans Z2.out)
  have B3 : Hid (Below w.heap.size w (w2.setCell ⟨w.heap.size, 7, none⟩ (.slice A' n' c'))) := Lib.hid (B2.out.setCell (by simp) _)
  have O3 : Hid (kA.Own (w2.setCell ⟨w.heap.size, 7, none⟩ (.slice A' n' c')) w.heap.size (.slice A' n' c') r.attrs) := Lib.hid ((O2.out.keep fun i hi => Below.heap_setCell _ _ _ _ (by rintro rfl; obtain ⟨d, hd⟩ := O2.out.ty hi; exact heap_ne hd N2.out (by decide) rfl)).base_le B1.out.size)
  clear a7 f7 B1 B2 N2 Z2 O2 n2
  generalize w2.setCell ⟨w.heap.size, 7, none⟩ (.slice A' n' c') = W3 at N3 Z3 B3 O3 ⊢
  have a0 := N3.out.c0
  have a1 := N3.out.c1
  have a2 := N3.out.c2
  have a3 := N3.out.c3
  have a4 := N3.out.c4
  have a5 := N3.out.c5
  have a6 := N3.out.c6
  have a7 := N3.out.c7
  have z0 : W3.cell? ⟨w.heap.size + 1, 0, none⟩ = some (.int .i64 0) := cell_of_row W3 _ 0 _ _ (0, 0) Z3.out
  have z1 : W3.cell? ⟨w.heap.size + 1, 1, none⟩ = some (.int .i64 0) := cell_of_row W3 _ 1 _ _ (0, 0) Z3.out
  have z2 : W3.cell? ⟨w.heap.size + 1, 2, none⟩ = some (.int .i64 0) := cell_of_row W3 _ 2 _ _ (0, 0) Z3.out
  have z3 : W3.cell? ⟨w.heap.size + 1, 3, none⟩ = some (.int .i64 0) := cell_of_row W3 _ 3 _ _ (0, 0) Z3.out
  have z4 : W3.cell? ⟨w.heap.size + 1, 4, none⟩ = some (.string ⟨#[]⟩) := cell_of_row W3 _ 4 _ _ (0, 0) Z3.out
  have z5 : W3.cell? ⟨w.heap.size + 1, 5, none⟩ = some (.string ⟨#[]⟩) := cell_of_row W3 _ 5 _ _ (0, 0) Z3.out
  have z6 : W3.cell? ⟨w.heap.size + 1, 6, none⟩ = some (.string ⟨#[]⟩) := cell_of_row W3 _ 6 _ _ (0, 0) Z3.out
  have z7 : W3.cell? ⟨w.heap.size + 1, 7, none⟩ = some (.slice none 0 0) := cell_of_row W3 _ 7 _ _ (0, 0) Z3.out
  have fz : ∀ i, W3.frozen? ⟨w.heap.size + 1, i, none⟩ = false := fun i => by have hb := Z3.out; simp [World.frozen?, hb]
  have fz0 := fz 0
  have fz1 := fz 1
  have fz2 := fz 2
  have fz3 := fz 3
  have fz4 := fz 4
  have fz5 := fz 5
  have fz6 := fz 6
  have fz7 := fz 7
  clear fz
  go_wp2_with fail
  have Z4 : Hid ((((((((((W3.setCell ⟨w.heap.size + 1, 0, none⟩ (.int .i64 r.op)).setCell ⟨w.heap.size + 1, 1, none⟩ (.int .i64 r.id)).setCell ⟨w.heap.size + 1, 2, none⟩ (.int .i64 r.par)).setCell ⟨w.heap.size + 1, 3, none⟩ (.int .i64 r.bef)).setCell ⟨w.heap.size + 1, 4, none⟩ (.string r.tag)).setCell ⟨w.heap.size + 1, 5, none⟩ (.string r.txt)).setCell ⟨w.heap.size + 1, 6, none⟩ (.string r.key)).setCell ⟨w.heap.size + 1, 7, none⟩ (.slice A' n' c'))).heap[w.heap.size + 1]? = some (.cells #[.int .i64 r.op, .int .i64 r.id, .int .i64 r.par, .int .i64 r.bef, .string r.tag, .string r.txt, .string r.key, .slice A' n' c'] 57 (0, 0))) := Lib.hid (heap_set (heap_set (heap_set (heap_set (heap_set (heap_set (heap_set (heap_set (Z3.out) 0 _) 1 _) 2 _) 3 _) 4 _) 5 _) 6 _) 7 _)
  have B4 : Hid (Below w.heap.size w (((((((((W3.setCell ⟨w.heap.size + 1, 0, none⟩ (.int .i64 r.op)).setCell ⟨w.heap.size + 1, 1, none⟩ (.int .i64 r.id)).setCell ⟨w.heap.size + 1, 2, none⟩ (.int .i64 r.par)).setCell ⟨w.heap.size + 1, 3, none⟩ (.int .i64 r.bef)).setCell ⟨w.heap.size + 1, 4, none⟩ (.string r.tag)).setCell ⟨w.heap.size + 1, 5, none⟩ (.string r.txt)).setCell ⟨w.heap.size + 1, 6, none⟩ (.string r.key)).setCell ⟨w.heap.size + 1, 7, none⟩ (.slice A' n' c')))) := Lib.hid (Below.setCell (Below.setCell (Below.setCell (Below.setCell (Below.setCell (Below.setCell (Below.setCell (Below.setCell (B3.out) (by simp) _) (by simp) _) (by simp) _) (by simp) _) (by simp) _) (by simp) _) (by simp) _) (by simp) _)
  have O4 : Hid (kA.Own (((((((((W3.setCell ⟨w.heap.size + 1, 0, none⟩ (.int .i64 r.op)).setCell ⟨w.heap.size + 1, 1, none⟩ (.int .i64 r.id)).setCell ⟨w.heap.size + 1, 2, none⟩ (.int .i64 r.par)).setCell ⟨w.heap.size + 1, 3, none⟩ (.int .i64 r.bef)).setCell ⟨w.heap.size + 1, 4, none⟩ (.string r.tag)).setCell ⟨w.heap.size + 1, 5, none⟩ (.string r.txt)).setCell ⟨w.heap.size + 1, 6, none⟩ (.string r.key)).setCell ⟨w.heap.size + 1, 7, none⟩ (.slice A' n' c'))) w.heap.size (.slice A' n' c') r.attrs) := Lib.hid (O3.out.keep fun i hi => by
    have hne : i ≠ w.heap.size + 1 := by
      rintro rfl
      obtain ⟨d, hd⟩ := O3.out.ty hi
      exact heap_ne hd Z3.out (by decide) rfl
    exact heap_setCells_far (w.heap.size + 1) hne [.int .i64 r.op, .int .i64 r.id, .int .i64 r.par, .int .i64 r.bef, .string r.tag, .string r.txt, .string r.key, .slice A' n' c'] 0 W3)
  clear a0 a1 a2 a3 a4 a5 a6 a7 z0 z1 z2 z3 z4 z5 z6 z7 fz0 fz1 fz2 fz3 fz4 fz5 fz6 fz7
  generalize ((((((((W3.setCell ⟨w.heap.size + 1, 0, none⟩ (.int .i64 r.op)).setCell ⟨w.heap.size + 1, 1, none⟩ (.int .i64 r.id)).setCell ⟨w.heap.size + 1, 2, none⟩ (.int .i64 r.par)).setCell ⟨w.heap.size + 1, 3, none⟩ (.int .i64 r.bef)).setCell ⟨w.heap.size + 1, 4, none⟩ (.string r.tag)).setCell ⟨w.heap.size + 1, 5, none⟩ (.string r.txt)).setCell ⟨w.heap.size + 1, 6, none⟩ (.string r.key)).setCell ⟨w.heap.size + 1, 7, none⟩ (.slice A' n' c')) = W4 at Z4 B4 O4 ⊢
  have z0 : W4.cell? ⟨w.heap.size + 1, 0, none⟩ = some (.int .i64 r.op) := cell_of_row W4 _ 0 _ _ (0, 0) Z4.out
  have z1 : W4.cell? ⟨w.heap.size + 1, 1, none⟩ = some (.int .i64 r.id) := cell_of_row W4 _ 1 _ _ (0, 0) Z4.out
  have z2 : W4.cell? ⟨w.heap.size + 1, 2, none⟩ = some (.int .i64 r.par) := cell_of_row W4 _ 2 _ _ (0, 0) Z4.out
  have z3 : W4.cell? ⟨w.heap.size + 1, 3, none⟩ = some (.int .i64 r.bef) := cell_of_row W4 _ 3 _ _ (0, 0) Z4.out
  have z4 : W4.cell? ⟨w.heap.size + 1, 4, none⟩ = some (.string r.tag) := cell_of_row W4 _ 4 _ _ (0, 0) Z4.out
  have z5 : W4.cell? ⟨w.heap.size + 1, 5, none⟩ = some (.string r.txt) := cell_of_row W4 _ 5 _ _ (0, 0) Z4.out
  have z6 : W4.cell? ⟨w.heap.size + 1, 6, none⟩ = some (.string r.key) := cell_of_row W4 _ 6 _ _ (0, 0) Z4.out
  have z7 : W4.cell? ⟨w.heap.size + 1, 7, none⟩ = some (.slice A' n' c') := cell_of_row W4 _ 7 _ _ (0, 0) Z4.out
  refine bodyPost_ret (v := .agg #[.int .i64 r.op, .int .i64 r.id, .int .i64 r.par, .int .i64 r.bef, .string r.tag, .string r.txt, .string r.key, .slice A' n' c']) (by simp [results, Tryz.results35, go_sem, z0, z1, z2, z3, z4, z5, z6, z7]) rfl ⟨A', n', c', rfl, ?_, B4.out⟩
  obtain ⟨s, hs, ha⟩ := AOk.own O4.out
  injection hs with e1 e2 e3
  subst e1; subst e2; subst e3
  exact ha

theorem new_any (v : Option Addr) (w : World) : Calls Tryz.prog 8 #[.pointer v] w fun e w' => e = .returned (.pointer (some ⟨w.heap.size, 0, none⟩)) ∧ w' = w.alloc (.cells #[.pointer v, .slice none 0 0] 68) := by
  go_enter Tryz.func8, Tryz.ntmps8
  go_wp2_with fail
  go_ret
  exact ⟨rfl, rfl⟩
variable {B p g : Nat} {x : Dx} {vd : Value} {rs : List RR}
theorem Lg.new {w : World} (hB : B ≤ w.heap.size) (p : Nat) : Lg (w.alloc (.cells #[.pointer (some ⟨p, 0, none⟩), .slice none 0 0] 68)) B w.heap.size p (.slice none 0 0) [] :=
  ⟨heap_alloc_new w _, hB, Kind.Own.nil _ _ _, fun _ h => by cases h⟩
theorem do_nil (r : Rc) (A : Option Addr) (n c : Nat) (w : World) (v : Value) (h : w.heap[g]? = some (.cells #[.pointer none, v] 68 (0, 0))) : Calls Tryz.prog 60 #[.pointer (some ⟨g, 0, none⟩), .agg #[.int .i64 r.op, .int .i64 r.id, .int .i64 r.par, .int .i64 r.bef, .string r.tag, .string r.txt, .string r.key, .slice A n c]] w fun e w' => e = .returned (.iface 41 (.int .i64 1)) ∧ Below w.heap.size w w' := by
  have B1 : Hid (Below w.heap.size w (w.alloc (.cells #[.int .i64 r.op, .int .i64 r.id, .int .i64 r.par, .int .i64 r.bef, .string r.tag, .string r.txt, .string r.key, .slice A n c] 57))) := Lib.hid ((Below.refl _ _).alloc (Nat.le_refl _) _)
  have c0 : (w.alloc (.cells #[.int .i64 r.op, .int .i64 r.id, .int .i64 r.par, .int .i64 r.bef, .string r.tag, .string r.txt, .string r.key, .slice A n c] 57)).cell? ⟨g, 0, none⟩ = some (.pointer none) := cell_of_row _ g 0 _ _ (0, 0) (heap_up h)
  clear h
  go_enter Tryz.func60, Tryz.ntmps60
  go_upto_region 1 with fail
  generalize w.alloc (.cells #[.int .i64 r.op, .int .i64 r.id, .int .i64 r.par, .int .i64 r.bef, .string r.tag, .string r.txt, .string r.key, .slice A n c] 57) = W at B1 c0 ⊢
  go_wp2_with fail
  go_ret
  exact ⟨rfl, B1.out⟩

/-! ### Do -/
/-- a change is done: the log's slice behind the append is stored -/
theorem do_end {w6a w7 : World} {v7 : Value} {a : RR} (h : Lg w6a B g p vd rs) (hg : w6a.grownBy w7 vd.ownBlock) (ho : kR.Own w7 B v7 (rs ++ [a])) (ha : RecOk w6a a) :
    Lg (w7.setCell ⟨g, 1, none⟩ v7) B g p v7 (rs ++ [a]) ∧ But (lfoot g vd) w6a (w7.setCell ⟨g, 1, none⟩ v7) := by
  have b1 : But (fun k => vd.ownBlock = some k) w6a w7 := But.of_grown hg (fun i hi _ => hi)
  have hne : vd.ownBlock ≠ some g := by
    intro e
    obtain ⟨d, hd⟩ := h.own.ty e
    exact heap_ne hd h.blk (by decide) rfl
  have b7 : w7.heap[g]? = some (.cells #[.pointer (some ⟨p, 0, none⟩), vd] 68 (0, 0)) := (b1.block g (heap_lt h.blk) hne).trans h.blk
  have b8 : But (lfoot g vd) w6a (w7.setCell ⟨g, 1, none⟩ v7) := But.setCell (b1.mono fun _ _ hi => .inr hi) (fun _ => .inl rfl) _
  refine ⟨⟨heap_set b7 1 v7, h.base, ho.keep fun i hi => Below.heap_setCell _ _ _ _ ?_, fun b hb => ?_⟩, b8⟩
  · rintro rfl
    obtain ⟨d, hd⟩ := ho.ty hi
    exact heap_ne hd b7 (by decide) rfl
  · rcases List.mem_append.1 hb with hb | hb
    · exact ⟨(h.recs b hb).att.but b8 h.noA, (h.recs b hb).few⟩
    · rw [List.mem_singleton] at hb
      subst hb
      exact ⟨ha.att.but b8 h.noA, ha.few⟩
def Dos (w : World) (B g p : Nat) (x : Dx) (vd : Value) (rs : List RR) (r : Rc) (c' : Int) (e : Ending) (w' : World) : Prop :=
  e = .returned (errV c') ∧ ∃ x' vd' rs', LDid w B g p x vd x' vd' rs' w' ∧ x'.d = (applyD x.d r).2 ∧ rs'.map (·.r) = (if c' = 0 then rs.map (·.r) ++ [r] else rs.map (·.r)) ∧ rs'.length ≤ rs.length + 1
set_option maxRecDepth 100000 in
set_option maxHeartbeats 10000000 in
theorem do_any {c' : Int} (r : Rc) (A : Option Addr) (n c : Nat) (w : World) (hc : (applyD x.d r).1 = c') (hwf : WF x.d) (hn : x.n ≤ 100000) (ha : ∀ w9, Below B w w9 → ArgR w9 A n c r) (hl : rs.length ≤ 1000) (h : Dc w B p x) (l : Lg w B g p vd rs) :
    Calls Tryz.prog 60 #[.pointer (some ⟨g, 0, none⟩), .agg #[.int .i64 r.op, .int .i64 r.id, .int .i64 r.par, .int .i64 r.bef, .string r.tag, .string r.txt, .string r.key, .slice A n c]] w (Dos w B g p x vd rs r c') := by
  have B1 : Hid (Below w.heap.size w (w.alloc (.cells #[.int .i64 r.op, .int .i64 r.id, .int .i64 r.par, .int .i64 r.bef, .string r.tag, .string r.txt, .string r.key, .slice A n c] 57))) := Lib.hid ((Below.refl _ _).alloc (Nat.le_refl _) _)
  have N1 : Hid (RcB (w.alloc (.cells #[.int .i64 r.op, .int .i64 r.id, .int .i64 r.par, .int .i64 r.bef, .string r.tag, .string r.txt, .string r.key, .slice A n c] 57)) w.heap.size r A n c) := Lib.hid (RcB.new w r A n c)
  have HC := Lib.hid hc
  have HWF := Lib.hid hwf
  have HA := Lib.hid ha
  have H := Lib.hid h
  have L := Lib.hid l
  have q1 := err_neq_nil
  have q2 := nil_neq_nil
  have hBw : B ≤ w.heap.size := by have := h.base; have := h.lt (.inl rfl : foot p x p); omega
  clear hc hwf ha h l
  go_enter Tryz.func60, Tryz.ntmps60
  go_upto_region 1 with fail
  generalize w.alloc (.cells #[.int .i64 r.op, .int .i64 r.id, .int .i64 r.par, .int .i64 r.bef, .string r.tag, .string r.txt, .string r.key, .slice A n c] 57) = W at B1 N1 ⊢
  have H1 := Lib.hid (H.out.below B1.out)
  have L1 := Lib.hid (L.out.below B1.out)
  have d0 := L1.out.c0
  have b0 := N1.out.c0
  have b1 := N1.out.c1
  have b2 := N1.out.c2
  have b3 := N1.out.c3
  have b4 := N1.out.c4
  have b5 := N1.out.c5
  have b6 := N1.out.c6
  have b7 := N1.out.c7
  go_wp2_with fail
  go_region_held3 (fun w' => w'.cell? ⟨g, 0, none⟩ = some (.pointer (some ⟨p, 0, none⟩)) ∧ w'.cell? ⟨w.heap.size, 0, none⟩ = some (.int .i64 r.op) ∧ w'.cell? ⟨w.heap.size, 1, none⟩ = some (.int .i64 r.id) ∧ w'.cell? ⟨w.heap.size, 2, none⟩ = some (.int .i64 r.par) ∧ w'.cell? ⟨w.heap.size, 3, none⟩ = some (.int .i64 r.bef) ∧ w'.cell? ⟨w.heap.size, 4, none⟩ = some (.string r.tag) ∧ w'.cell? ⟨w.heap.size, 5, none⟩ = some (.string r.txt) ∧ w'.cell? ⟨w.heap.size, 6, none⟩ = some (.string r.key) ∧ w'.cell? ⟨w.heap.size, 7, none⟩ = some (.slice A n c)) (first | go_keep | exact K5) ((first
    | (go_at_call 27; refine (apply_c r A n c _ HC.out HWF.out hn (HA.out _ ((Below_drewN B1.out _).mono hBw)) (by exact H1.out.drewN _)).mono ?_; rintro e w5 ⟨rfl, x5, d5, hx5⟩; have LL5 := Lib.hid ((L1.out.drewN _).did (H1.out.drewN _) d5); have N5 := Lib.hid (RcB.did (w := W.drewN _) N1.out (H1.out.drewN _) d5); have K5 := And.intro LL5.out.c0 (And.intro N5.out.c0 (And.intro N5.out.c1 (And.intro N5.out.c2 (And.intro N5.out.c3 (And.intro N5.out.c4 (And.intro N5.out.c5 (And.intro N5.out.c6 N5.out.c7))))))); have D5 : Hid (Did W B p x x5 w5) := Lib.hid ((Did.below_ H1.out (Below_drewN (Below.refl _ _) _)).trans d5); have HX5 := Lib.hid hx5; clear d5 hx5)
    | fail))
  have L5 := LL5
  have LB5 : Hid (LDid w B g p x vd x5 vd rs w5) := Lib.hid ⟨D5.out.dc, L5.out, (But.of_below B1.out _).trans (D5.out.but.mono fun _ _ hi => .inl hi) (fun _ _ hi => hi), (fun i hi => (D5.out.ft i hi).imp id (fun e => by have := B1.out.size; omega)), fun i hi => .inl hi⟩
  clear d0 b0 b1 b2 b3 b4 b5 b6 b7 LL5
  by_cases hc0 : c' = 0
  · subst hc0
    rw [errV0]
    obtain ⟨A2, n2, c2, hvd, hn2, hn2c, hc2m, hz2, hh2⟩ := own_r L5.out.own
    have HVD := Lib.hid hvd
    have HN2 := Lib.hid hn2
    have HAR := Lib.hid (HA.out w5 (LB5.out.to_below H.out L.out)).at_
    have HAZ : Hid (A = none → c = 0 ∧ n = 0) := Lib.hid (fun e => by have := HAR.out.nil e; have := HAR.out.cap; omega)
    have d1 := L5.out.c1
    rw [hvd] at d1
    have f1 := L5.out.frozen 1
    have hg5 : g < w5.heap.size := heap_lt L5.out.blk
    have hs5 : w.heap.size < w5.heap.size := N5.out.lt
    have b0 := N5.out.c0
    have b1 := N5.out.c1
    have b2 := N5.out.c2
    have b3 := N5.out.c3
    have b4 := N5.out.c4
    have b5 := N5.out.c5
    have b6 := N5.out.c6
    have b7 := N5.out.c7
    have HNE : Hid (∀ k, (Value.slice A2 n2 c2).ownBlock = some k → k ≠ g ∧ k < w.heap.size) := Lib.hid (by
      rw [← hvd]
      intro k hk
      refine ⟨?_, L.out.lt (.inr hk)⟩
      rintro rfl
      obtain ⟨d, hd⟩ := L.out.own.ty hk
      exact heap_ne hd L.out.blk (by decide) rfl)
    clear hvd hn2 hh2 hz2
    go_upto_region 6 with fail
    refine Tl.region_last (S := (fun w' => w'.cell? ⟨g, 1, none⟩ = some (.slice A2 n2 c2) ∧ w'.cell? ⟨w.heap.size, 0, none⟩ = some (.int .i64 r.op) ∧ w'.cell? ⟨w.heap.size, 1, none⟩ = some (.int .i64 r.id) ∧ w'.cell? ⟨w.heap.size, 2, none⟩ = some (.int .i64 r.par) ∧ w'.cell? ⟨w.heap.size, 3, none⟩ = some (.int .i64 r.bef) ∧ w'.cell? ⟨w.heap.size, 4, none⟩ = some (.string r.tag) ∧ w'.cell? ⟨w.heap.size, 5, none⟩ = some (.string r.txt) ∧ w'.cell? ⟨w.heap.size, 6, none⟩ = some (.string r.key) ∧ w'.cell? ⟨w.heap.size, 7, none⟩ = some (.slice A n c))) (by kernel_rfl) 11 _ rfl rfl rfl (by kernel_rfl) (by go_keep) (fun hHeld => ?_)
    simp only [List.setIfInBounds_toArray, List.set_cons_zero, List.set_cons_succ, Tl.idle]
    refine wpAnyH_take (i := 0) (v := ?v1) rfl (by kernel_rfl) (by kernel_rfl) (by kernel_rfl) (fun _ _ _ h => h) (Or.inl ⟨by rfl, ?hy1⟩) (by assumption) ?hr1
    case hy1 => (intro w' hSw; (try dsimp only at hSw); go_simp; try with_reducible rfl)
    (try simp only [Act.put, List.setIfInBounds_toArray, List.set_cons_zero, List.set_cons_succ])
    refine wpAnyH_take (i := 1) (v := ?v2) rfl (by kernel_rfl) (by kernel_rfl) (by kernel_rfl) (fun _ _ _ h => h) (Or.inl ⟨by rfl, ?hy2⟩) (by assumption) ?hr2
    case hy2 => (intro w' hSw; (try dsimp only at hSw); go_simp; try with_reducible rfl)
    (try simp only [Act.put, List.setIfInBounds_toArray, List.set_cons_zero, List.set_cons_succ])
    refine wpAnyH_take (i := 2) (v := ?v3) rfl (by kernel_rfl) (by kernel_rfl) (by kernel_rfl) (fun _ _ _ h => h) (Or.inl ⟨by rfl, ?hy3⟩) (by assumption) ?hr3
    case hy3 => (intro w' hSw; (try dsimp only at hSw); go_simp; try with_reducible rfl)
    (try simp only [Act.put, List.setIfInBounds_toArray, List.set_cons_zero, List.set_cons_succ])
    refine wpAnyH_take (i := 3) (v := ?v4) rfl (by kernel_rfl) (by kernel_rfl) (by kernel_rfl) (fun _ _ _ h => h) (Or.inl ⟨by rfl, ?hy4⟩) (by assumption) ?hr4
    case hy4 => (intro w' hSw; (try dsimp only at hSw); go_simp; try with_reducible rfl)
    (try simp only [Act.put, List.setIfInBounds_toArray, List.set_cons_zero, List.set_cons_succ])
    refine wpAnyH_take (i := 4) (v := ?v5) rfl (by kernel_rfl) (by kernel_rfl) (by kernel_rfl) (fun _ _ _ h => h) (Or.inl ⟨by rfl, ?hy5⟩) (by assumption) ?hr5
    case hy5 => (intro w' hSw; (try dsimp only at hSw); go_simp; try with_reducible rfl)
    (try simp only [Act.put, List.setIfInBounds_toArray, List.set_cons_zero, List.set_cons_succ])
    refine wpAnyH_take (i := 5) (v := ?v6) rfl (by kernel_rfl) (by kernel_rfl) (by kernel_rfl) (fun _ _ _ h => h) (Or.inl ⟨by rfl, ?hy6⟩) (by assumption) ?hr6
    case hy6 => (intro w' hSw; (try dsimp only at hSw); go_simp; try with_reducible rfl)
    (try simp only [Act.put, List.setIfInBounds_toArray, List.set_cons_zero, List.set_cons_succ])
    refine wpAnyH_ready (rs := [6]) (by kernel_rfl) (by simp) ?_
    refine AllReadyH.cons rfl (fun K hK => ?_) ?_
    · go_simp; go_at_call 35; refine (own_any r A n c _ HAR.out.len HAR.out.few HAZ.out (by exact HAR.out.holds)).mono ?_; rintro e w6 ⟨A6, n6, c6, rfl, ao6, b6⟩; have AO6 := Lib.hid ao6; have B6 : Hid (Below w5.heap.size w5 w6) := Lib.hid (by first | exact b6 | exact (Below.drew (Below.refl _ _)).trans b6 | exact (Below_drewN (Below.refl _ _) _).trans b6); have N6 := Lib.hid (N5.out.below B6.out N5.out.lt); have L6 := Lib.hid (L5.out.below B6.out); have d6 := L6.out.c1; rw [HVD.out] at d6; have f6 := L6.out.frozen 1; clear ao6 b6; go_wp2_with fail
      refine hK.out _ _ ?_ (fun hHeld => ?_)
      · exact ⟨d6, N6.out.c0, N6.out.c1, N6.out.c2, N6.out.c3, N6.out.c4, N6.out.c5, N6.out.c6, N6.out.c7⟩
      clear hK K
      (try simp only [Act.put, List.setIfInBounds_toArray, List.set_cons_zero, List.set_cons_succ])
      refine wpAnyH_ready (rs := [7]) (by kernel_rfl) (by simp) ?_
      refine AllReadyH.cons rfl (fun K hK => ?_) ?_
      · go_simp
        refine hK.out _ _ ?_ (fun hHeld => ?_)
        · go_keep
        clear hK K
        (try simp only [Act.put, List.setIfInBounds_toArray, List.set_cons_zero, List.set_cons_succ])
        refine wpAnyH_ready (rs := [8]) (by kernel_rfl) (by simp) ?_
        refine AllReadyH.cons rfl (fun K hK => ?_) ?_
        · refine kR.step_app rfl (.tmp 25) (.tmp 28) rfl (v := .slice A2 n2 c2) (l := rs) (m := [⟨r, ⟨A6, n6, c6⟩⟩]) (B := B) (A := some ⟨w6.heap.size, 0, none⟩) (n := 1) (c := 1) rfl (by have := L6.out.own; rw [HVD.out] at this; exact this.alloc _) rfl rfl (fun e => by cases e) (Kind.Holds.lit (heap_alloc_new _ _) rfl) (by simp; omega) (by have := L6.out.ge (.inl rfl : lfoot g vd g); have := heap_lt L6.out.blk; simp; omega) ?_; intro v7 w7 hown7 hgrow7 hat7; obtain ⟨A7, n7, c7, rfl, _, _, _, _, _⟩ := hown7.slice; have O7 := Lib.hid hown7; have G7 := Lib.hid hgrow7; have AT7 := Lib.hid hat7; have e7 : w7.cell? ⟨g, 1, none⟩ = some (.slice A2 n2 c2) := (cell_of_row w7 g 1 _ _ (0, 0) ((hgrow7.block g (by have := heap_lt L6.out.blk; simp; omega) (fun e => ((HNE.out g e.symm).1 rfl).elim)).trans (heap_up L6.out.blk))).trans (by rw [HVD.out]; rfl); have N7 : Hid (RcB w7 w.heap.size r A n c) := Lib.hid ((hgrow7.block _ (by have := N6.out.lt; simp; omega) (fun e => by have := (HNE.out _ e.symm).2; omega)).trans (heap_up N6.out)); have f7 : w7.frozen? ⟨g, 1, none⟩ = false := (by have hb := (hgrow7.block g (by have := heap_lt L6.out.blk; simp; omega) (fun e => ((HNE.out g e.symm).1 rfl).elim)).trans (heap_up L6.out.blk); simp [World.frozen?, hb]); clear hown7 hgrow7 hat7
          refine hK.out _ _ ?_ (fun hHeld => ?_)
          · exact ⟨e7, N7.out.c0, N7.out.c1, N7.out.c2, N7.out.c3, N7.out.c4, N7.out.c5, N7.out.c6, N7.out.c7⟩
          clear hK K
          (try simp only [Act.put, List.setIfInBounds_toArray, List.set_cons_zero, List.set_cons_succ])
          refine wpAnyH_take (i := 9) (v := ?v7) rfl (by kernel_rfl) (by kernel_rfl) (by kernel_rfl) (fun _ _ _ h => h) (Or.inl ⟨by rfl, ?hy7⟩) (by assumption) ?hr7
          case hy7 => (intro w' hSw; (try dsimp only at hSw); go_simp; try with_reducible rfl)
          (try simp only [Act.put, List.setIfInBounds_toArray, List.set_cons_zero, List.set_cons_succ])
          refine wpAnyH_take (i := 10) (v := ?v8) rfl (by kernel_rfl) (by kernel_rfl) (by kernel_rfl) (fun _ _ _ h => h) (Or.inl ⟨by rfl, ?hy8⟩) (by assumption) ?hr8
          case hy8 => (intro w' hSw; (try dsimp only at hSw); go_simp; try with_reducible rfl)
          (try simp only [Act.put, List.setIfInBounds_toArray, List.set_cons_zero, List.set_cons_succ])
          refine wpAnyH_take (i := 11) (v := ?v9) rfl (by kernel_rfl) (by kernel_rfl) (by kernel_rfl) (fun _ _ _ h => h) (Or.inl ⟨by rfl, ?hy9⟩) (by assumption) ?hr9
          case hy9 => (intro w' hSw; (try dsimp only at hSw); go_simp; try with_reducible rfl)
          (try simp only [Act.put, List.setIfInBounds_toArray, List.set_cons_zero, List.set_cons_succ])
          refine wpAnyH_done (by kernel_rfl) ?_ _
          intro K hK
          go_simp
          refine hK _ _ ?_
          clear hK K
          have l6a := L6.out.below ((Below.refl _ _).alloc (Nat.le_refl _) (.cells #[.int .i64 r.op, .int .i64 r.id, .int .i64 r.par, .int .i64 r.bef, .string r.tag, .string r.txt, .string r.key, .slice A6 n6 c6] 57))
          have g7 : World.grownBy (w6.alloc (.cells #[.int .i64 r.op, .int .i64 r.id, .int .i64 r.par, .int .i64 r.bef, .string r.tag, .string r.txt, .string r.key, .slice A6 n6 c6] 57)) w7 vd.ownBlock := by rw [HVD.out]; exact G7.out
          have a6a : AOk (w6.alloc (.cells #[.int .i64 r.op, .int .i64 r.id, .int .i64 r.par, .int .i64 r.bef, .string r.tag, .string r.txt, .string r.key, .slice A6 n6 c6] 57)) ⟨A6, n6, c6⟩ r.attrs := AO6.out.below ((Below.refl _ _).alloc (Nat.le_refl _) _)
          obtain ⟨l8, b8⟩ := do_end (a := ⟨r, ⟨A6, n6, c6⟩⟩) l6a g7 O7.out ⟨a6a, by have h1 := HAR.out.len; have h2 := HAR.out.few; have h3 := a6a.len; simp only at h3 ⊢; omega⟩
          have b56 : Below w5.heap.size w5 (w6.alloc (.cells #[.int .i64 r.op, .int .i64 r.id, .int .i64 r.par, .int .i64 r.bef, .string r.tag, .string r.txt, .string r.key, .slice A6 n6 c6] 57)) := B6.out.alloc B6.out.size _
          have dc6 := LB5.out.dc.below b56
          have DC8 := Lib.hid (dc6.but b8 (fun k hk hf => l6a.notD dc6 hf hk) l6a.noA)
          have L8 := Lib.hid l8
          have B8 : Hid (But (fun k => foot p x k ∨ lfoot g vd k) w (w7.setCell ⟨g, 1, none⟩ (.slice A7 n7 c7))) := Lib.hid ((LB5.out.but.trans (But.of_below b56 (fun _ => False)) (fun _ _ hi => hi.elim)).trans b8 (fun _ _ hi => .inr hi))
          have LF8 : Hid (∀ k, (Value.slice A7 n7 c7).ownBlock = some k → vd.ownBlock = some k ∨ w.heap.size ≤ k) := Lib.hid (fun k hk => by
            rcases AT7.out with e | e
            · rw [e, ← HVD.out] at hk; exact .inl hk
            · rw [e] at hk
              injection hk with hk
              have h1 := B6.out.size
              simp at hk
              exact .inr (by omega))
          clear l6a g7 a6a l8 b8 b56 dc6 e7 f7 N7 d6 f6 L6 N6 B6 AO6 O7 G7 AT7
          generalize w7.setCell ⟨g, 1, none⟩ (.slice A7 n7 c7) = W8 at DC8 L8 B8 ⊢
          go_wp2_with fail
          go_ret
          exact ⟨by rw [errV0]; rfl, x5, _, _, ⟨DC8.out, L8.out, B8.out, LB5.out.ft, LF8.out⟩, HX5.out, by simp, by simp⟩
        exact AllReadyH.nil
      exact AllReadyH.nil
    exact AllReadyH.nil
  · have he : errV c' = .iface 41 (.int .i64 c') := by unfold errV; rw [if_neg hc0]
    have HC0 := Lib.hid hc0
    rw [he]
    clear hc0
    go_wp2_with fail
    go_ret
    refine ⟨?_, x5, vd, rs, LB5.out, HX5.out, by rw [if_neg HC0.out], by omega⟩
    rw [he]
    rfl

/-! ### All -/
theorem row_same {l : List RR} {k : Nat} {a : RR} (hk : k < l.length) (h : a.r = l[k].r) : (l.set k a).map (·.r) = l.map (·.r) := by
  apply List.ext_getElem
  · simp
  · intro i h1 h2
    simp only [List.getElem_map, List.getElem_set]
    split
    · rename_i e; subst e; exact h
    · rfl
/-- a change of one's own slice is another: the others' attributes are as they were -/
theorem row_end {w6 : World} {B g1 n c k : Nat} {l : List RR} {a : RR} (ho : kR.Own w6 B (.slice (some ⟨g1, 0, none⟩) n c) l) (hk : k < l.length) (hr : ∀ b ∈ l, RecOk w6 b) (ha : RecOk w6 a) :
    kR.Own (w6.setCells g1 (k * 8) a.cells) B (.slice (some ⟨g1, 0, none⟩) n c) (l.set k a) ∧ (∀ b ∈ l.set k a, RecOk (w6.setCells g1 (k * 8) a.cells) b) ∧ But (fun i => i = g1) w6 (w6.setCells g1 (k * 8) a.cells) := by
  have hb : But (fun i => i = g1) w6 (w6.setCells g1 (k * 8) a.cells) := But.setCells (S := fun i => i = g1) (But.refl _ _) (fun _ => rfl) _ _
  have hA : NoA w6 (fun i => i = g1) := by
    rintro i cur fr rfl hi
    obtain ⟨d, hd⟩ := ho.ty (g := i) rfl
    exact heap_ne hi hd (by decide) rfl
  refine ⟨Kind.Own.setE (K := kR) ho hk a, fun b hb2 => ?_, hb⟩
  rcases mem_set_ hb2 with rfl | ⟨j, hj, _, rfl⟩
  · exact ⟨ha.att.but hb hA, ha.few⟩
  · exact ⟨(hr _ (List.getElem_mem hj)).att.but hb hA, (hr _ (List.getElem_mem hj)).few⟩
def Alls (w : World) (rs : List RR) (e : Ending) (w' : World) : Prop := ∃ A n c rs', e = .returned (.slice A n c) ∧ kR.Own w' w.heap.size (.slice A n c) rs' ∧ rs'.map (·.r) = rs.map (·.r) ∧ (∀ a ∈ rs', RecOk w' a) ∧ Below w.heap.size w w'
set_option maxRecDepth 100000 in
set_option maxHeartbeats 10000000 in
theorem all_any (w : World) (hl : rs.length ≤ 1000) (l : Lg w B g p vd rs) : Calls Tryz.prog 11 #[.pointer (some ⟨g, 0, none⟩)] w (Alls w rs) := by
  obtain ⟨A2, n2, c2, hvd, hn2, hn2c, hc2m, hz2, hh2⟩ := own_r l.own
  have HN2 := Lib.hid hn2
  have HZ2 := Lib.hid hz2
  have HH2 := Lib.hid hh2
  have L := Lib.hid l
  have d1 := l.c1
  rw [hvd] at d1
  have hn3 : n2 ≤ 1000 := by omega
  clear hvd hn2 hh2 hz2 l hn2c hc2m
  go_enter Tryz.func11, Tryz.ntmps11
  go_wp2_with fail
  refine (cloneRec_any rs A2 n2 c2 w HN2.out (by omega) HZ2.out HH2.out).mono ?_
  rintro e w1 ⟨A1, n1, c1, rfl, o1, b1⟩
  have O1 := Lib.hid o1
  have B1 := Lib.hid b1
  have R1 : Hid (∀ a ∈ rs, RecOk w1 a) := Lib.hid (L.out.below b1).recs
  obtain ⟨_, _, _, hv1, hl1, _, hm1, _⟩ := own_r o1
  injection hv1 with e1 e2 e3
  subst e2
  obtain rfl : n1 = n2 := by rw [← hl1]; exact HN2.out
  clear hl1 hm1 e1 e3 o1 b1
  go_wp2_with fail
  go_loopw [13] (fun s wr => ∃ (k : Nat) (l : List RR), k ≤ n1 ∧ s = .int .i64 k ∧ Hid (l.length = n1) ∧ Hid (l.map (·.r) = rs.map (·.r)) ∧ Hid (kR.Own wr w.heap.size (.slice A1 n1 c1) l) ∧ Hid (∀ a ∈ l, RecOk wr a) ∧ Hid (Below w.heap.size w wr)) (fun s _ => n1 - (intOf s).toNat)
  case atStart => exact ⟨0, rs, by omega, rfl, HN2, Lib.hid rfl, O1, R1, B1⟩
  case round =>
    obtain ⟨k, l, hk, rfl, HL, HM, HO, HR, HB⟩ := hrel
    by_cases hkn : k < n1
    · have hkl : k < l.length := by have := HL.out; omega
      rcases HO.out.form with ⟨_, hl0⟩ | ⟨g1, c1', cur, hv, _, hBg, hlt, hh, hnc, hcm, hcs, _⟩
      · subst hl0; simp at hkl
      injection hv with e1 e2 e3
      subst e1; subst e3
      obtain ⟨_, _, _, hv, _, _, _, _, hhold⟩ := own_r HO.out
      injection hv with e1 e2' e3'
      subst e1; subst e2'; subst e3'
      obtain ⟨b, o, he, _, g0, g1', g2, g3, g4, g5, g6, g7⟩ := cell_of_recs hhold hkl
      injection he with he
      injection he with h1 h2
      subst h1; subst h2
      have hdr := Lib.hid (HR.out _ (List.getElem_mem hkl))
      have HD : Hid (∀ a : RR, a.r = l[k].r → (l.set k a).map (·.r) = rs.map (·.r)) := Lib.hid (fun a ha => by rw [row_same hkl ha]; exact HM.out)
      generalize l[k] = d at g0 g1' g2 g3 g4 g5 g6 g7 hdr HD
      simp only [Nat.zero_add] at g0 g1' g2 g3 g4 g5 g6 g7
      have hg1 : w.heap.size ≤ g1 := hBg
      have hg1r : g1 < wr.heap.size := hlt
      clear hhold hh hnc hcm hcs e2 hBg
      go_upto_region 5 with fail
      have NA := Lib.hid (RcB.new wr d.r d.va.A d.va.n d.va.c)
      have BA : Hid (Below wr.heap.size wr (wr.alloc (.cells #[.int .i64 d.r.op, .int .i64 d.r.id, .int .i64 d.r.par, .int .i64 d.r.bef, .string d.r.tag, .string d.r.txt, .string d.r.key, .slice d.va.A d.va.n d.va.c] 57))) := Lib.hid ((Below.refl _ _).alloc (Nat.le_refl _) _)
      generalize wr.alloc (.cells #[.int .i64 d.r.op, .int .i64 d.r.id, .int .i64 d.r.par, .int .i64 d.r.bef, .string d.r.tag, .string d.r.txt, .string d.r.key, .slice d.va.A d.va.n d.va.c] 57) = wa at NA BA ⊢
      clear g0 g1' g2 g3 g4 g5 g6 g7
      have a0 := NA.out.c0
      have a1 := NA.out.c1
      have a2 := NA.out.c2
      have a3 := NA.out.c3
      have a4 := NA.out.c4
      have a5 := NA.out.c5
      have a6 := NA.out.c6
      have a7 := NA.out.c7
      have hf2 := hdr.out.few
      go_wp2_with fail
      refine (own_any d.r d.va.A d.va.n d.va.c wa hdr.out.att.len hf2 (fun e => by have h1 := hdr.out.att.nil e; have h2 := hdr.out.att.cap; omega) (hdr.out.att.below BA.out).holds).mono ?_
      rintro e w6 ⟨A6, n6, c6, rfl, ao6, b6⟩
      have B6 : Hid (Below wr.heap.size wr w6) := Lib.hid (BA.out.trans (b6.mono BA.out.size))
      have AO6 := Lib.hid ao6
      have O6 : Hid (kR.Own w6 w.heap.size (.slice (some ⟨g1, 0, none⟩) n1 c1) l) := Lib.hid (HO.out.below B6.out (Nat.le_refl _))
      have R6 : Hid (∀ a ∈ l, RecOk w6 a) := Lib.hid (fun a ha => ⟨(HR.out a ha).att.below B6.out, (HR.out a ha).few⟩)
      have hn6 : n6 ≤ 1000000 := by have h1 := ao6.len; have h2 := hdr.out.att.len; simp only at h1; omega
      clear a0 a1 a2 a3 a4 a5 a6 a7 NA BA b6 ao6
      have T6 : w6.there g1 (k * 8) 8 := by
        rcases O6.out.form with ⟨hv, _⟩ | ⟨g', c', cur, hv, _, _, _, hh, hnc, _, hcs, _⟩
        · cases hv
        injection hv with e1 e2 e3
        injection e1 with e1
        injection e1 with e1
        subst e1; subst e3
        intro j hj
        have hj2 : k * 8 + j < cur.size := by rw [hcs]; show k * 8 + j < c1 * 8; omega
        exact ⟨by rw [cell_of_row w6 g1 (k * 8 + j) _ _ (0, 0) hh, Array.getElem?_eq_getElem hj2]; rfl, by simp [World.frozen?, hh]⟩
      obtain ⟨⟨u0, g20⟩, f0⟩ : (∃ u, w6.cell? ⟨g1, k * 8, none⟩ = some u) ∧ w6.frozen? ⟨g1, k * 8, none⟩ = false := ⟨Option.isSome_iff_exists.1 (T6 0 (by omega)).1, (T6 0 (by omega)).2⟩
      obtain ⟨⟨u1, g21⟩, f1⟩ : (∃ u, w6.cell? ⟨g1, k * 8 + 1, none⟩ = some u) ∧ w6.frozen? ⟨g1, k * 8 + 1, none⟩ = false := ⟨Option.isSome_iff_exists.1 (T6 1 (by omega)).1, (T6 1 (by omega)).2⟩
      obtain ⟨⟨u2, g22⟩, f2⟩ : (∃ u, w6.cell? ⟨g1, k * 8 + 2, none⟩ = some u) ∧ w6.frozen? ⟨g1, k * 8 + 2, none⟩ = false := ⟨Option.isSome_iff_exists.1 (T6 2 (by omega)).1, (T6 2 (by omega)).2⟩
      obtain ⟨⟨u3, g23⟩, f3⟩ : (∃ u, w6.cell? ⟨g1, k * 8 + 3, none⟩ = some u) ∧ w6.frozen? ⟨g1, k * 8 + 3, none⟩ = false := ⟨Option.isSome_iff_exists.1 (T6 3 (by omega)).1, (T6 3 (by omega)).2⟩
      obtain ⟨⟨u4, g24⟩, f4⟩ : (∃ u, w6.cell? ⟨g1, k * 8 + 4, none⟩ = some u) ∧ w6.frozen? ⟨g1, k * 8 + 4, none⟩ = false := ⟨Option.isSome_iff_exists.1 (T6 4 (by omega)).1, (T6 4 (by omega)).2⟩
      obtain ⟨⟨u5, g25⟩, f5⟩ : (∃ u, w6.cell? ⟨g1, k * 8 + 5, none⟩ = some u) ∧ w6.frozen? ⟨g1, k * 8 + 5, none⟩ = false := ⟨Option.isSome_iff_exists.1 (T6 5 (by omega)).1, (T6 5 (by omega)).2⟩
      obtain ⟨⟨u6, g26⟩, f6⟩ : (∃ u, w6.cell? ⟨g1, k * 8 + 6, none⟩ = some u) ∧ w6.frozen? ⟨g1, k * 8 + 6, none⟩ = false := ⟨Option.isSome_iff_exists.1 (T6 6 (by omega)).1, (T6 6 (by omega)).2⟩
      obtain ⟨⟨u7, g27⟩, f7⟩ : (∃ u, w6.cell? ⟨g1, k * 8 + 7, none⟩ = some u) ∧ w6.frozen? ⟨g1, k * 8 + 7, none⟩ = false := ⟨Option.isSome_iff_exists.1 (T6 7 (by omega)).1, (T6 7 (by omega)).2⟩
      clear T6
      go_wp2_with fail
      have hW : ((((((((w6.setCell ⟨g1, k * 8, none⟩ (.int .i64 d.r.op)).setCell ⟨g1, k * 8 + 1, none⟩ (.int .i64 d.r.id)).setCell ⟨g1, k * 8 + 2, none⟩ (.int .i64 d.r.par)).setCell ⟨g1, k * 8 + 3, none⟩ (.int .i64 d.r.bef)).setCell ⟨g1, k * 8 + 4, none⟩ (.string d.r.tag)).setCell ⟨g1, k * 8 + 5, none⟩ (.string d.r.txt)).setCell ⟨g1, k * 8 + 6, none⟩ (.string d.r.key)).setCell ⟨g1, k * 8 + 7, none⟩ (.slice A6 n6 c6)) = w6.setCells g1 (k * 8) (RR.cells ⟨d.r, ⟨A6, n6, c6⟩⟩) := rfl
      obtain ⟨o8, r8, b8⟩ := row_end O6.out hkl R6.out (a := ⟨d.r, ⟨A6, n6, c6⟩⟩) ⟨AO6.out, hn6⟩
      rw [← hW] at o8 r8 b8
      generalize ((((((((w6.setCell ⟨g1, k * 8, none⟩ (.int .i64 d.r.op)).setCell ⟨g1, k * 8 + 1, none⟩ (.int .i64 d.r.id)).setCell ⟨g1, k * 8 + 2, none⟩ (.int .i64 d.r.par)).setCell ⟨g1, k * 8 + 3, none⟩ (.int .i64 d.r.bef)).setCell ⟨g1, k * 8 + 4, none⟩ (.string d.r.tag)).setCell ⟨g1, k * 8 + 5, none⟩ (.string d.r.txt)).setCell ⟨g1, k * 8 + 6, none⟩ (.string d.r.key)).setCell ⟨g1, k * 8 + 7, none⟩ (.slice A6 n6 c6)) = W8 at o8 r8 b8 ⊢
      have O8 := Lib.hid o8
      have R8 := Lib.hid r8
      have W8B : Hid (Below w.heap.size w W8) := Lib.hid (HB.out.trans ((B6.out.mono HB.out.size).trans (b8.to_below (fun i _ hi => by subst hi; exact hg1) (by have := HB.out.size; have := B6.out.size; omega))))
      clear hW o8 r8 b8 g20 f0 g21 f1 g22 f2 g23 f3 g24 f4 g25 f5 g26 f6 g27 f7
      go_roundw
      case rel => exact ⟨k + 1, l.set k ⟨d.r, ⟨A6, n6, c6⟩⟩, by omega, by go_num, Lib.hid (by rw [List.length_set]; exact HL.out), Lib.hid (HD.out ⟨d.r, ⟨A6, n6, c6⟩⟩ rfl), O8, R8, W8B⟩
      case measure => simp [intOf]; omega
    · go_wp2_with fail
      go_ret
      exact ⟨A1, n1, c1, l, rfl, HO.out, HM.out, HR.out, HB.out⟩
end Go.Proofs.YtkagaobelhpojaaGreat.P7
