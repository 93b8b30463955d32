/- What the quick calls on a document answer: who is there, a node, the identities, room, the focus; and what a focus, a note, attributes, a text that are set leave. -/
import Derived.Deep.RegionHeld3
import Derived.Test.YtihjdmdafiifhaaGreatM9
import Derived.Test.YtihjdmdafiifhaaGreatM10
set_option linter.unusedVariables false
set_option linter.unusedSimpArgs false
set_option linter.unusedVariables false
set_option linter.unusedSimpArgs false
namespace Go.Proofs.YtihjdmdafiifhaaGreat.P5
open Go.RowKit Kd P4
variable {B p : Nat} {x : Dx}

theorem NdAt.c0 {w : World} {r : Rw} (h : NdAt w B r) : w.cell? ⟨r.b, 0, none⟩ = some (.int .i64 r.nd.id) := h.cell 0
theorem NdAt.c1 {w : World} {r : Rw} (h : NdAt w B r) : w.cell? ⟨r.b, 1, none⟩ = some (.int .i64 r.nd.par) := h.cell 1
theorem NdAt.c2 {w : World} {r : Rw} (h : NdAt w B r) : w.cell? ⟨r.b, 2, none⟩ = some (.string r.nd.tag) := h.cell 2
theorem NdAt.c3 {w : World} {r : Rw} (h : NdAt w B r) : w.cell? ⟨r.b, 3, none⟩ = some (.string r.nd.txt) := h.cell 3
theorem NdAt.c4 {w : World} {r : Rw} (h : NdAt w B r) : w.cell? ⟨r.b, 4, none⟩ = some (.string r.nd.key) := h.cell 4
theorem NdAt.c5 {w : World} {r : Rw} (h : NdAt w B r) : w.cell? ⟨r.b, 5, none⟩ = some r.va.val := h.cell 5
theorem NdAt.c6 {w : World} {r : Rw} (h : NdAt w B r) : w.cell? ⟨r.b, 6, none⟩ = some r.vk.val := h.cell 6
theorem NdAt.c7 {w : World} {r : Rw} (h : NdAt w B r) : w.cell? ⟨r.b, 7, none⟩ = some (.int .i64 r.nd.note) := h.cell 7

theorem node_at (y : Int) {k : Nat} {b : Nat} (w : World) (hk : k < x.rs.length) (hy : x.rs[k].nd.id = y) (hb : x.rs[k].b = b) (h : Dc w B p x) :
    Calls Tryz.prog 49 #[.pointer (some ⟨p, 0, none⟩), .int .i64 y] w fun e w' => e = .returned (.pointer (some ⟨b, 0, none⟩)) ∧ Below w.heap.size w w' := by
  have H := Lib.hid h
  have HY := Lib.hid hy
  have HB := Lib.hid hb
  have c0 := h.c0
  clear h hy hb
  go_enter Tryz.func49, Tryz.ntmps49
  go_wp2_with fail
  refine (getP_at y k (x := b) w (l := x.rs.map slotOf) (by simpa using hk) (by simp [slotOf, HY.out]) (by simp [slotOf, HB.out]) H.out.ar).mono ?_
  rintro e w1 ⟨rfl, b1⟩
  have B1 := Lib.hid b1
  clear b1
  go_wp2_with fail
  go_ret
  exact ⟨rfl, B1.out⟩
theorem has_at (y : Int) {r : Bool} (w : World) (hr : hasL x.l y = r) (h : Dc w B p x) :
    Calls Tryz.prog 48 #[.pointer (some ⟨p, 0, none⟩), .int .i64 y] w fun e w' => e = .returned (.bool r) ∧ Below w.heap.size w w' := by
  have H := Lib.hid h
  have c0 := h.c0
  cases r with
  | false =>
    have HR := Lib.hid hr
    clear h hr
    go_enter Tryz.func48, Tryz.ntmps48
    go_wp2_with fail
    refine (getP_no y w (by rw [H.out.has_slot]; exact HR.out) H.out.ar).mono ?_
    rintro e w1 ⟨rfl, b1⟩
    have B1 := Lib.hid b1
    clear b1
    go_wp2_with fail
    go_ret
    exact ⟨rfl, B1.out⟩
  | true =>
    obtain ⟨k, hk, hy, _⟩ := h.place hr
    have HY := Lib.hid hy
    clear h hr hy
    go_enter Tryz.func48, Tryz.ntmps48
    go_wp2_with fail
    refine (getP_at y k (x := x.rs[k].b) w (l := x.rs.map slotOf) (by simpa using hk) (by simp [slotOf, HY.out]) (by simp [slotOf]) H.out.ar).mono ?_
    rintro e w1 ⟨rfl, b1⟩
    have B1 := Lib.hid b1
    clear b1
    go_wp2_with fail
    go_ret
    exact ⟨rfl, B1.out⟩
theorem next_any {m : Int} (w : World) (hn : x.n ≤ 100000) (hm : m = x.n + 1) (h : Dc w B p x) : Calls Tryz.prog 34 #[.pointer (some ⟨p, 0, none⟩)] w fun e w' => e = .returned (.int .i64 m) ∧ w = w' := by
  have H := Lib.hid h
  have HM := Lib.hid hm
  have c0 := h.c0
  clear h hm
  go_enter Tryz.func34, Tryz.ntmps34
  go_wp2_with fail
  refine (nextP_any w hn HM.out H.out.ar).mono ?_
  rintro e w' ⟨rfl, rfl⟩
  go_wp2_with fail
  go_ret
  exact ⟨rfl, rfl⟩
theorem own_nil_zero {v : Value} {w : World} {l : List Int} {A : Option Addr} {n c : Nat} (h : kI.Own w B v l) (hv : v = .slice A n c) : l.length = n ∧ n ≤ c ∧ c ≤ maxLen ∧ (A = none → c = 0 ∧ n = 0) ∧ kI.Holds w w.heap.size A l := by
  subst hv
  obtain ⟨A', n', c', hv, h1, h2, h3, h4, h5⟩ := h.slice
  injection hv with e1 e2 e3
  subst e1; subst e2; subst e3
  exact ⟨h1, h2, h3, fun e => by have := h4 e; omega, h5⟩
/-! ### A node that is told -/
/-- a node's value, with lists of its own -/
def Told (w : World) (nd : Nd) (e : Ending) (w' : World) : Prop :=
  ∃ A n c A2 n2 c2, e = .returned (.agg #[.int .i64 nd.id, .int .i64 nd.par, .string nd.tag, .string nd.txt, .string nd.key, .slice A n c, .slice A2 n2 c2, .int .i64 nd.note]) ∧ AOk w' ⟨A, n, c⟩ nd.attrs ∧ kI.Own w' w.heap.size (.slice A2 n2 c2) nd.kids ∧ Below w.heap.size w w'
theorem own_end {w w2 wf : World} {nd : Nd} {A A2 : Option Addr} {n c n2 c2 : Nat} {C D : Nat} (hB : Below w.heap.size w w2) (hA : kA.Own w2 C (.slice A n c) nd.attrs) (hK : kI.Own w2 D (.slice A2 n2 c2) nd.kids) (hC : w.heap.size + 1 < C) (hD : w.heap.size + 1 < D)
    (hb : But (fun k => k = w.heap.size ∨ k = w.heap.size + 1) w2 wf) : Told w nd (.returned (.agg #[.int .i64 nd.id, .int .i64 nd.par, .string nd.tag, .string nd.txt, .string nd.key, .slice A n c, .slice A2 n2 c2, .int .i64 nd.note])) wf := by
  have h1 : kA.Own wf C (.slice A n c) nd.attrs := hA.but hb (fun g hg h => by have := (hA.lt hg).1; omega)
  have h2 : kI.Own wf D (.slice A2 n2 c2) nd.kids := hK.but hb (fun g hg h => by have := (hK.lt hg).1; omega)
  obtain ⟨s, hs, ha⟩ := AOk.own h1
  obtain ⟨sA, sn, sc⟩ := s
  simp only [Sv.val, Value.slice.injEq] at hs
  obtain ⟨rfl, rfl, rfl⟩ := hs
  exact ⟨_, _, _, _, _, _, rfl, ha, h2.base_le (by omega), hB.trans (hb.to_below (fun i _ hi => by omega) hB.size)⟩
set_option maxHeartbeats 1000000 in
theorem own_any (nd : Nd) {A A2 : Option Addr} {n c n2 c2 : Nat} (w : World) (ha : AOk w ⟨A, n, c⟩ nd.attrs) (hal : nd.attrs.length ≤ 1000) (hkl : nd.kids.length ≤ 1000) (hk : kI.Own w B (.slice A2 n2 c2) nd.kids) :
    Calls Tryz.prog 26 #[.agg #[.int .i64 nd.id, .int .i64 nd.par, .string nd.tag, .string nd.txt, .string nd.key, .slice A n c, .slice A2 n2 c2, .int .i64 nd.note]] w (Told w nd) := by
  obtain ⟨h1, h2, h3, h4, h5⟩ := own_nil_zero hk rfl
  have a1 := ha.len
  have a2 := ha.cap
  have a4 := ha.nil
  simp only at a1 a2 a4
  have hn2 : n2 ≤ 1000000 := by omega
  have hn : n ≤ 1000000 := by omega
  have HA := Lib.hid ha
  have H1 := Lib.hid h1
  have H4 := Lib.hid h4
  have H5 := Lib.hid h5
  have A1 := Lib.hid a1
  have A4 : Hid (A = none → c = 0 ∧ n = 0) := Lib.hid (fun e => by have := a4 e; omega)
  clear h1 h2 h3 h4 h5 a1 a2 a4 ha hk hal hkl
  go_enter Tryz.func26, Tryz.ntmps26
  go_wp2_with fail
  have W0 : Hid (Below w.heap.size w ((w.alloc (.cells #[.int .i64 nd.id, .int .i64 nd.par, .string nd.tag, .string nd.txt, .string nd.key, .slice A n c, .slice A2 n2 c2, .int .i64 nd.note] 34)).alloc (.cells #[.int .i64 0, .int .i64 0, .string ⟨#[]⟩, .string ⟨#[]⟩, .string ⟨#[]⟩, .slice none 0 0, .slice none 0 0, .int .i64 0] 34))) := Lib.hid (((Below.refl _ _).alloc (Nat.le_refl _) _).alloc (by simp) _)
  have K0 : Hid (((w.alloc (.cells #[.int .i64 nd.id, .int .i64 nd.par, .string nd.tag, .string nd.txt, .string nd.key, .slice A n c, .slice A2 n2 c2, .int .i64 nd.note] 34)).alloc (.cells #[.int .i64 0, .int .i64 0, .string ⟨#[]⟩, .string ⟨#[]⟩, .string ⟨#[]⟩, .slice none 0 0, .slice none 0 0, .int .i64 0] 34)).heap[w.heap.size]? = some (.cells #[.int .i64 nd.id, .int .i64 nd.par, .string nd.tag, .string nd.txt, .string nd.key, .slice A n c, .slice A2 n2 c2, .int .i64 nd.note] 34 (0, 0))) := Lib.hid (heap_up (heap_alloc_new w _))
  have K1 : Hid (((w.alloc (.cells #[.int .i64 nd.id, .int .i64 nd.par, .string nd.tag, .string nd.txt, .string nd.key, .slice A n c, .slice A2 n2 c2, .int .i64 nd.note] 34)).alloc (.cells #[.int .i64 0, .int .i64 0, .string ⟨#[]⟩, .string ⟨#[]⟩, .string ⟨#[]⟩, .slice none 0 0, .slice none 0 0, .int .i64 0] 34)).heap[w.heap.size + 1]? = some (.cells #[.int .i64 0, .int .i64 0, .string ⟨#[]⟩, .string ⟨#[]⟩, .string ⟨#[]⟩, .slice none 0 0, .slice none 0 0, .int .i64 0] 34 (0, 0))) := Lib.hid (by have := heap_alloc_new (w.alloc (.cells #[.int .i64 nd.id, .int .i64 nd.par, .string nd.tag, .string nd.txt, .string nd.key, .slice A n c, .slice A2 n2 c2, .int .i64 nd.note] 34)) (.cells #[.int .i64 0, .int .i64 0, .string ⟨#[]⟩, .string ⟨#[]⟩, .string ⟨#[]⟩, .slice none 0 0, .slice none 0 0, .int .i64 0] 34); simpa using this)
  generalize ((w.alloc (.cells #[.int .i64 nd.id, .int .i64 nd.par, .string nd.tag, .string nd.txt, .string nd.key, .slice A n c, .slice A2 n2 c2, .int .i64 nd.note] 34)).alloc (.cells #[.int .i64 0, .int .i64 0, .string ⟨#[]⟩, .string ⟨#[]⟩, .string ⟨#[]⟩, .slice none 0 0, .slice none 0 0, .int .i64 0] 34)) = W at W0 K0 K1 ⊢
  have hz0 : w.heap.size < W.heap.size := heap_lt K0.out
  have hz1 : w.heap.size + 1 < W.heap.size := heap_lt K1.out
  refine (cloneAt_any nd.attrs A n c W A1.out hn A4.out (by exact ((HA.out.below W0.out).holds))).mono ?_
  rintro e w1 ⟨s1A, s1n, s1c, rfl, o1, b1⟩
  have O1 := Lib.hid o1
  have B1 := Lib.hid (W0.out.trans (b1.mono W0.out.size))
  have L0 : Hid (w1.heap[w.heap.size]? = _) := Lib.hid ((b1.block _ hz0).trans K0.out)
  have L1 : Hid (w1.heap[w.heap.size + 1]? = _) := Lib.hid ((b1.block _ hz1).trans K1.out)
  have d5 : w1.cell? ⟨w.heap.size, 5, none⟩ = some (.slice A n c) := cell_of_row w1 _ 5 _ _ (0, 0) L0.out
  have d6 : w1.cell? ⟨w.heap.size, 6, none⟩ = some (.slice A2 n2 c2) := cell_of_row w1 _ 6 _ _ (0, 0) L0.out
  have f5 : w1.frozen? ⟨w.heap.size, 5, none⟩ = false := by have hb := L0.out; simp [World.frozen?, hb]
  clear o1 b1 K0 K1
  go_wp2_with fail
  have M0 : Hid ((w1.setCell ⟨w.heap.size, 5, none⟩ (.slice s1A s1n s1c)).heap[w.heap.size]? = some (.cells #[.int .i64 nd.id, .int .i64 nd.par, .string nd.tag, .string nd.txt, .string nd.key, .slice s1A s1n s1c, .slice A2 n2 c2, .int .i64 nd.note] 34 (0, 0))) := Lib.hid (heap_set L0.out 5 _)
  have M1 : Hid ((w1.setCell ⟨w.heap.size, 5, none⟩ (.slice s1A s1n s1c)).heap[w.heap.size + 1]? = _) := Lib.hid ((Below.heap_setCell _ _ _ _ (by show w.heap.size + 1 ≠ w.heap.size; omega)).trans L1.out)
  have BM : Hid (Below w.heap.size w (w1.setCell ⟨w.heap.size, 5, none⟩ (.slice s1A s1n s1c))) := Lib.hid (B1.out.setCell (p := ⟨w.heap.size, 5, none⟩) (Nat.le_refl _) _)
  have OM : Hid (kA.Own (w1.setCell ⟨w.heap.size, 5, none⟩ (.slice s1A s1n s1c)) W.heap.size (.slice s1A s1n s1c) nd.attrs) := Lib.hid (O1.out.keep fun g hg => Below.heap_setCell _ _ _ _ (by have := (O1.out.lt hg).1; show g ≠ w.heap.size; omega))
  generalize w1.setCell ⟨w.heap.size, 5, none⟩ (.slice s1A s1n s1c) = W1 at M0 M1 BM OM ⊢
  clear d5 d6 f5 L0 L1 B1 O1
  refine (cloneInt_any nd.kids A2 n2 c2 W1 H1.out hn2 H4.out (H5.out.on BM.out)).mono ?_
  rintro e w2 ⟨s2A, s2n, s2c, rfl, o2, b2⟩
  have hz2 : w.heap.size < W1.heap.size := heap_lt M0.out
  have hz3 : w.heap.size + 1 < W1.heap.size := heap_lt M1.out
  have O2 := Lib.hid o2
  have OA := Lib.hid (OM.out.below b2 (Nat.le_refl _))
  have B2 := Lib.hid (BM.out.trans (b2.mono BM.out.size))
  have N0 : Hid (w2.heap[w.heap.size]? = _) := Lib.hid ((b2.block _ hz2).trans M0.out)
  have N1 : Hid (w2.heap[w.heap.size + 1]? = _) := Lib.hid ((b2.block _ hz3).trans M1.out)
  have hz4 : w.heap.size + 1 < w2.heap.size := heap_lt N1.out
  have e0 : w2.cell? ⟨w.heap.size, 0, none⟩ = some (.int .i64 nd.id) := cell_of_row w2 _ 0 _ _ (0, 0) N0.out
  have e1 : w2.cell? ⟨w.heap.size, 1, none⟩ = some (.int .i64 nd.par) := cell_of_row w2 _ 1 _ _ (0, 0) N0.out
  have e2 : w2.cell? ⟨w.heap.size, 2, none⟩ = some (.string nd.tag) := cell_of_row w2 _ 2 _ _ (0, 0) N0.out
  have e3 : w2.cell? ⟨w.heap.size, 3, none⟩ = some (.string nd.txt) := cell_of_row w2 _ 3 _ _ (0, 0) N0.out
  have e4 : w2.cell? ⟨w.heap.size, 4, none⟩ = some (.string nd.key) := cell_of_row w2 _ 4 _ _ (0, 0) N0.out
  have e5 : w2.cell? ⟨w.heap.size, 5, none⟩ = some (.slice s1A s1n s1c) := cell_of_row w2 _ 5 _ _ (0, 0) N0.out
  have e6 : w2.cell? ⟨w.heap.size, 6, none⟩ = some (.slice A2 n2 c2) := cell_of_row w2 _ 6 _ _ (0, 0) N0.out
  have e7 : w2.cell? ⟨w.heap.size, 7, none⟩ = some (.int .i64 nd.note) := cell_of_row w2 _ 7 _ _ (0, 0) N0.out
  have g6 : w2.frozen? ⟨w.heap.size, 6, none⟩ = false := by have hb := N0.out; simp [World.frozen?, hb]
  have r0 : w2.cell? ⟨w.heap.size + 1, 0, none⟩ = some (.int .i64 0) := cell_of_row w2 _ 0 _ _ (0, 0) N1.out
  have r1 : w2.cell? ⟨w.heap.size + 1, 1, none⟩ = some (.int .i64 0) := cell_of_row w2 _ 1 _ _ (0, 0) N1.out
  have r2 : w2.cell? ⟨w.heap.size + 1, 2, none⟩ = some (.string ⟨#[]⟩) := cell_of_row w2 _ 2 _ _ (0, 0) N1.out
  have r3 : w2.cell? ⟨w.heap.size + 1, 3, none⟩ = some (.string ⟨#[]⟩) := cell_of_row w2 _ 3 _ _ (0, 0) N1.out
  have r4 : w2.cell? ⟨w.heap.size + 1, 4, none⟩ = some (.string ⟨#[]⟩) := cell_of_row w2 _ 4 _ _ (0, 0) N1.out
  have r5 : w2.cell? ⟨w.heap.size + 1, 5, none⟩ = some (.slice none 0 0) := cell_of_row w2 _ 5 _ _ (0, 0) N1.out
  have r6 : w2.cell? ⟨w.heap.size + 1, 6, none⟩ = some (.slice none 0 0) := cell_of_row w2 _ 6 _ _ (0, 0) N1.out
  have r7 : w2.cell? ⟨w.heap.size + 1, 7, none⟩ = some (.int .i64 0) := cell_of_row w2 _ 7 _ _ (0, 0) N1.out
  have rf : ∀ i, w2.frozen? ⟨w.heap.size + 1, i, none⟩ = false := fun i => by have hb := N1.out; simp [World.frozen?, hb]
  clear o2 b2 M0 M1 BM OM hz2 hz0
  go_wp2_with fail
  refine bodyPost_ret (v := .agg #[.int .i64 nd.id, .int .i64 nd.par, .string nd.tag, .string nd.txt, .string nd.key, .slice s1A s1n s1c, .slice s2A s2n s2c, .int .i64 nd.note]) (by simp [results, Tryz.results26, go_sem, e0, e1, e2, e3, e4, e5, e6, e7, r0, r1, r2, r3, r4, r5, r6, r7, hz4]) rfl ?_
  refine own_end B2.out OA.out O2.out hz1 hz3 ?_
  exact But.setCell (But.setCell (But.setCell (But.setCell (But.setCell (But.setCell (But.setCell (But.setCell (But.setCell (But.refl _ _) (fun _ => .inl rfl) _) (fun _ => .inr rfl) _) (fun _ => .inr rfl) _) (fun _ => .inr rfl) _) (fun _ => .inr rfl) _) (fun _ => .inr rfl) _) (fun _ => .inr rfl) _) (fun _ => .inr rfl) _) (fun _ => .inr rfl) _
theorem setOne {a w : World} {g i : Nat} {u : Value} (h : But (fun k => k = g) a w) : But (fun k => k = g) a (w.setCell ⟨g, i, none⟩ u) := But.setCell h (fun _ => rfl) u
theorem one_end {w w2 wf : World} (hB : Below w.heap.size w w2) (hb : But (fun k => k = w.heap.size) w2 wf) : Below w.heap.size w wf := hB.trans (hb.to_below (fun i _ hi => by omega) hB.size)
set_option maxHeartbeats 1000000 in
theorem tell_no (y : Int) (w : World) (hy : hasL x.l y = false) (h : Dc w B p x) : Calls Tryz.prog 14 #[.pointer (some ⟨p, 0, none⟩), .int .i64 y] w fun e w' => e = .returned (.tuple #[.agg #[.int .i64 0, .int .i64 0, .string ⟨#[]⟩, .string ⟨#[]⟩, .string ⟨#[]⟩, .slice none 0 0, .slice none 0 0, .int .i64 0], .bool false]) ∧ Below w.heap.size w w' := by
  have H := Lib.hid h
  have HY := Lib.hid hy
  have c0 := h.c0
  have hlt := h.lt (.inl rfl : foot p x p)
  clear h hy
  go_enter Tryz.func14, Tryz.ntmps14
  go_wp2_with fail
  refine (getP_no y _ (by rw [H.out.has_slot]; exact HY.out) (H.out.alloc _).ar).mono ?_
  rintro e w1 ⟨rfl, b1⟩
  have B1 := Lib.hid ((((Below.refl _ w).alloc (Nat.le_refl _) _)).trans (b1.mono (by simp)))
  have BLK : Hid (w1.heap[w.heap.size]? = some (.cells #[.int .i64 0, .int .i64 0, .string ⟨#[]⟩, .string ⟨#[]⟩, .string ⟨#[]⟩, .slice none 0 0, .slice none 0 0, .int .i64 0] 34 (0, 0))) := Lib.hid ((b1.block _ (by simp)).trans (heap_alloc_new w _))
  have hz4 : w.heap.size < w1.heap.size := heap_lt BLK.out
  have r0 : w1.cell? ⟨w.heap.size, 0, none⟩ = some (.int .i64 0) := cell_of_row w1 _ 0 _ _ (0, 0) BLK.out
  have r1 : w1.cell? ⟨w.heap.size, 1, none⟩ = some (.int .i64 0) := cell_of_row w1 _ 1 _ _ (0, 0) BLK.out
  have r2 : w1.cell? ⟨w.heap.size, 2, none⟩ = some (.string ⟨#[]⟩) := cell_of_row w1 _ 2 _ _ (0, 0) BLK.out
  have r3 : w1.cell? ⟨w.heap.size, 3, none⟩ = some (.string ⟨#[]⟩) := cell_of_row w1 _ 3 _ _ (0, 0) BLK.out
  have r4 : w1.cell? ⟨w.heap.size, 4, none⟩ = some (.string ⟨#[]⟩) := cell_of_row w1 _ 4 _ _ (0, 0) BLK.out
  have r5 : w1.cell? ⟨w.heap.size, 5, none⟩ = some (.slice none 0 0) := cell_of_row w1 _ 5 _ _ (0, 0) BLK.out
  have r6 : w1.cell? ⟨w.heap.size, 6, none⟩ = some (.slice none 0 0) := cell_of_row w1 _ 6 _ _ (0, 0) BLK.out
  have r7 : w1.cell? ⟨w.heap.size, 7, none⟩ = some (.int .i64 0) := cell_of_row w1 _ 7 _ _ (0, 0) BLK.out
  have rf : ∀ i, w1.frozen? ⟨w.heap.size, i, none⟩ = false := fun i => by have hb := BLK.out; simp [World.frozen?, hb]
  clear b1
  go_wp2_with fail
  refine bodyPost_ret (v := .tuple #[.agg #[.int .i64 0, .int .i64 0, .string ⟨#[]⟩, .string ⟨#[]⟩, .string ⟨#[]⟩, .slice none 0 0, .slice none 0 0, .int .i64 0], .bool false]) (by simp [results, Tryz.results14, go_sem, r0, r1, r2, r3, r4, r5, r6, r7, hz4]) rfl ⟨rfl, one_end B1.out ?_⟩
  exact setOne (setOne (setOne (setOne (setOne (setOne (setOne (setOne (But.refl _ _))))))))
/-- a node that is told: its value, with lists of its own, and whether it is there -/
def Tells (w : World) (nd : Nd) (e : Ending) (w' : World) : Prop :=
  ∃ A n c A2 n2 c2, e = .returned (.tuple #[.agg #[.int .i64 nd.id, .int .i64 nd.par, .string nd.tag, .string nd.txt, .string nd.key, .slice A n c, .slice A2 n2 c2, .int .i64 nd.note], .bool true]) ∧ AOk w' ⟨A, n, c⟩ nd.attrs ∧ kI.Own w' w.heap.size (.slice A2 n2 c2) nd.kids ∧ Below w.heap.size w w'
theorem tell_end {w w2 wf : World} {nd : Nd} {A A2 : Option Addr} {n c n2 c2 : Nat} {D : Nat} (hB : Below w.heap.size w w2) (hD : w.heap.size < D) (hA : AOk w2 ⟨A, n, c⟩ nd.attrs) (hK : kI.Own w2 D (.slice A2 n2 c2) nd.kids)
    (hz : ∃ cur, w2.heap[w.heap.size]? = some (.cells cur 34 (0, 0))) (hb : But (fun k => k = w.heap.size) w2 wf) : Tells w nd (.returned (.tuple #[.agg #[.int .i64 nd.id, .int .i64 nd.par, .string nd.tag, .string nd.txt, .string nd.key, .slice A n c, .slice A2 n2 c2, .int .i64 nd.note], .bool true])) wf := by
  obtain ⟨cur, hc⟩ := hz
  refine ⟨_, _, _, _, _, _, rfl, hA.but hb ?_, (hK.but hb (fun g hg e => by have := (hK.lt hg).1; omega)).base_le (by omega), one_end hB hb⟩
  rintro k c f rfl hk
  exact heap_ne hc hk (by decide) rfl
set_option maxHeartbeats 1000000 in
theorem tell_yes (y : Int) {k : Nat} {nd : Nd} (w : World) (hk : k < x.rs.length) (hy : x.rs[k].nd.id = y) (hn : x.rs[k].nd = nd) (hal : nd.attrs.length ≤ 1000) (hkl : nd.kids.length ≤ 1000) (h : Dc w B p x) :
    Calls Tryz.prog 14 #[.pointer (some ⟨p, 0, none⟩), .int .i64 y] w (Tells w nd) := by
  have H := Lib.hid h
  have hnd := h.nd hk
  obtain ⟨b, hb⟩ : ∃ b, x.rs[k].b = b := ⟨_, rfl⟩
  have HY := Lib.hid hy
  have HB := Lib.hid hb
  have c0 := h.c0
  have hlt := h.lt (.inl rfl : foot p x p)
  have HS : Hid (∃ A n c A2 n2 c2, w.heap[b]? = some (.cells #[.int .i64 nd.id, .int .i64 nd.par, .string nd.tag, .string nd.txt, .string nd.key, .slice A n c, .slice A2 n2 c2, .int .i64 nd.note] 34 (0, 0)) ∧ AOk w ⟨A, n, c⟩ nd.attrs ∧ kI.Own w B (.slice A2 n2 c2) nd.kids) := Lib.hid (by
    subst hn; subst hb
    exact ⟨_, _, _, _, _, _, hnd.blk, hnd.att, hnd.kids⟩)
  obtain ⟨A, n, c, A2, n2, c2, hblk, hatt, hkids⟩ := HS.out
  have NB := Lib.hid hblk
  have HA := Lib.hid hatt
  have HK := Lib.hid hkids
  clear h hy hn hb hnd HS hblk hatt hkids
  go_enter Tryz.func14, Tryz.ntmps14
  go_wp2_with fail
  refine (getP_at y k (x := b) _ (l := x.rs.map slotOf) (by simpa using hk) (by simp [slotOf, HY.out]) (by simp [slotOf, HB.out]) (H.out.alloc _).ar).mono ?_
  rintro e w1 ⟨rfl, b1⟩
  have B1 := Lib.hid ((((Below.refl _ w).alloc (Nat.le_refl _) (.cells #[.int .i64 0, .int .i64 0, .string ⟨#[]⟩, .string ⟨#[]⟩, .string ⟨#[]⟩, .slice none 0 0, .slice none 0 0, .int .i64 0] 34))).trans (b1.mono (by simp)))
  have N1 : Hid (w1.heap[b]? = _) := Lib.hid ((B1.out.block b (heap_lt NB.out)).trans NB.out)
  have BLK1 : Hid (w1.heap[w.heap.size]? = some (.cells #[.int .i64 0, .int .i64 0, .string ⟨#[]⟩, .string ⟨#[]⟩, .string ⟨#[]⟩, .slice none 0 0, .slice none 0 0, .int .i64 0] 34 (0, 0))) := Lib.hid ((b1.block _ (by simp)).trans (heap_alloc_new w _))
  have hz4 : w.heap.size < w1.heap.size := heap_lt BLK1.out
  have e0 : w1.cell? ⟨b, 0, none⟩ = some (.int .i64 nd.id) := cell_of_row w1 _ 0 _ _ (0, 0) N1.out
  have e1 : w1.cell? ⟨b, 1, none⟩ = some (.int .i64 nd.par) := cell_of_row w1 _ 1 _ _ (0, 0) N1.out
  have e2 : w1.cell? ⟨b, 2, none⟩ = some (.string nd.tag) := cell_of_row w1 _ 2 _ _ (0, 0) N1.out
  have e3 : w1.cell? ⟨b, 3, none⟩ = some (.string nd.txt) := cell_of_row w1 _ 3 _ _ (0, 0) N1.out
  have e4 : w1.cell? ⟨b, 4, none⟩ = some (.string nd.key) := cell_of_row w1 _ 4 _ _ (0, 0) N1.out
  have e5 : w1.cell? ⟨b, 5, none⟩ = some (.slice A n c) := cell_of_row w1 _ 5 _ _ (0, 0) N1.out
  have e6 : w1.cell? ⟨b, 6, none⟩ = some (.slice A2 n2 c2) := cell_of_row w1 _ 6 _ _ (0, 0) N1.out
  have e7 : w1.cell? ⟨b, 7, none⟩ = some (.int .i64 nd.note) := cell_of_row w1 _ 7 _ _ (0, 0) N1.out
  clear b1
  go_wp2_with fail
  refine (own_any (B := B) nd w1 (HA.out.below B1.out) hal hkl (HK.out.below B1.out (Nat.le_refl _))).mono ?_
  rintro e w2 ⟨A', n', c', A2', n2', c2', rfl, a2, o2, b2⟩
  have B2 := Lib.hid (B1.out.trans (b2.mono B1.out.size))
  have BLK : Hid (w2.heap[w.heap.size]? = some (.cells #[.int .i64 0, .int .i64 0, .string ⟨#[]⟩, .string ⟨#[]⟩, .string ⟨#[]⟩, .slice none 0 0, .slice none 0 0, .int .i64 0] 34 (0, 0))) := Lib.hid ((b2.block _ hz4).trans BLK1.out)
  have HA2 := Lib.hid a2
  have HK2 := Lib.hid o2
  have hz5 : w.heap.size < w2.heap.size := heap_lt BLK.out
  have r0 : w2.cell? ⟨w.heap.size, 0, none⟩ = some (.int .i64 0) := cell_of_row w2 _ 0 _ _ (0, 0) BLK.out
  have r1 : w2.cell? ⟨w.heap.size, 1, none⟩ = some (.int .i64 0) := cell_of_row w2 _ 1 _ _ (0, 0) BLK.out
  have r2 : w2.cell? ⟨w.heap.size, 2, none⟩ = some (.string ⟨#[]⟩) := cell_of_row w2 _ 2 _ _ (0, 0) BLK.out
  have r3 : w2.cell? ⟨w.heap.size, 3, none⟩ = some (.string ⟨#[]⟩) := cell_of_row w2 _ 3 _ _ (0, 0) BLK.out
  have r4 : w2.cell? ⟨w.heap.size, 4, none⟩ = some (.string ⟨#[]⟩) := cell_of_row w2 _ 4 _ _ (0, 0) BLK.out
  have r5 : w2.cell? ⟨w.heap.size, 5, none⟩ = some (.slice none 0 0) := cell_of_row w2 _ 5 _ _ (0, 0) BLK.out
  have r6 : w2.cell? ⟨w.heap.size, 6, none⟩ = some (.slice none 0 0) := cell_of_row w2 _ 6 _ _ (0, 0) BLK.out
  have r7 : w2.cell? ⟨w.heap.size, 7, none⟩ = some (.int .i64 0) := cell_of_row w2 _ 7 _ _ (0, 0) BLK.out
  have rf : ∀ i, w2.frozen? ⟨w.heap.size, i, none⟩ = false := fun i => by have hb := BLK.out; simp [World.frozen?, hb]
  clear a2 o2 b2 e0 e1 e2 e3 e4 e5 e6 e7
  go_wp2_with fail
  refine bodyPost_ret (v := .tuple #[.agg #[.int .i64 nd.id, .int .i64 nd.par, .string nd.tag, .string nd.txt, .string nd.key, .slice A' n' c', .slice A2' n2' c2', .int .i64 nd.note], .bool true]) (by simp [results, Tryz.results14, go_sem, r0, r1, r2, r3, r4, r5, r6, r7, hz5]) rfl ?_
  refine tell_end B2.out hz4 HA2.out HK2.out ⟨_, BLK.out⟩ ?_
  exact setOne (setOne (setOne (setOne (setOne (setOne (setOne (setOne (But.refl _ _))))))))
end Go.Proofs.YtihjdmdafiifhaaGreat.P5
