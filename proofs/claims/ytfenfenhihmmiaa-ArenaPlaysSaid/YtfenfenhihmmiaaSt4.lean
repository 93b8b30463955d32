/- What ArenaPlays holds in memory: the arena, and the two lists that the law keeps beside it; a deed in a block of its own. No condition. -/
import Derived.Test.YtfenfenhihmmiaaNever4
import Derived.Test.YtfenfenhihmmiaaOpen4
namespace Go.Proofs.Ytfenfenhihmmiaa.P4
open Go.RowKit Kd

/-- the arena, and the two lists beside it -/
structure St (w : World) (B p R : Nat) (n : Int) (v vi vm : Value) (l : List (Sl Int)) : Prop where
  ar : ArI w B p R n v l
  ids : kI.Own w B vi (idsA l)
  vals : kI.Own w B vm (valsA l)
  ap : Apart vi vm
theorem own_holds {P : Program} {α : Type} {K : Kind P α} {w : World} {B n c : Nat} {A : Option Addr} {l : List α} (h : K.Own w B (.slice A n c) l) : l.length = n ∧ n ≤ c ∧ c ≤ maxLen ∧ (A = none → c = 0) ∧ K.Holds w w.heap.size A l := by
  obtain ⟨A', n', c', hv, h1, h2, h3, h4, h5⟩ := h.slice
  injection hv with e1 e2 e3
  subst e1; subst e2; subst e3
  exact ⟨h1, h2, h3, h4, h5⟩
section
variable {w w' : World} {B p R : Nat} {n : Int} {v vi vm : Value} {l : List (Sl Int)}
theorem St.below {C : Nat} (h : St w B p R n v vi vm l) (hb : Below C w w') (hC : w.heap.size ≤ C) : St w' B p R n v vi vm l :=
  ⟨h.ar.below hb hC, h.ids.below hb hC, h.vals.below hb hC, h.ap⟩
theorem own_armI {B' : Nat} {u : Value} {gs : List Int} (h : kI.Own w B' u gs) (ha : ArI w B p R n v l) (hb : But (Arm p v) w w') : kI.Own w' B' u gs :=
  h.but hb fun g hg => by
    obtain ⟨c, hc⟩ := h.ty hg
    exact ha.other hc (by decide) (by decide)
theorem idsA_len (l : List (Sl Int)) : (idsA l).length = l.length := by simp [idsA]
theorem valsA_len (l : List (Sl Int)) : (valsA l).length = l.length := by simp [valsA]
theorem intsI_map (zs : List Int) : kI.cells zs = zs.map (Value.int .i64) := by
  induction zs with
  | nil => rfl
  | cons z r ih =>
    simp only [Kind.cells, List.flatMap_cons, List.map_cons] at ih ⊢
    rw [ih]
    rfl
theorem intsI_set (zs : List Int) (k : Nat) (x : Int) : kI.cells (zs.set k x) = (kI.cells zs).set k (.int .i64 x) := by
  rw [intsI_map, intsI_map, List.map_set]
/-- a cell of one's own integers -/
theorem own_at {B' m c : Nat} {A : Option Addr} {zs : List Int} (h : kI.Own w B' (.slice A m c) zs) {k : Nat} (hk : k < zs.length) :
    ∃ g, A = some ⟨g, 0, none⟩ ∧ g < w.heap.size ∧ w.cell? ⟨g, k, none⟩ = some (.int .i64 zs[k]) ∧ w.frozen? ⟨g, k, none⟩ = false := by
  rcases h.form with ⟨_, rfl⟩ | ⟨g, c', cur, hv, _, hB, hlt, hh, _⟩
  · simp at hk
  · injection hv with e1 e2 e3
    subst e1
    obtain ⟨b, o, hA, _, hc⟩ := cell_of_ints (own_holds h).2.2.2.2 hk
    injection hA with hA
    injection hA with e4 e5
    subst e4; subst e5
    exact ⟨g, rfl, hlt, by rwa [Nat.zero_add] at hc, by simp [World.frozen?, hh]⟩
theorem ids_cell {m c : Nat} {A : Option Addr} (h : kI.Own w B (.slice A m c) (idsA l)) {k : Nat} (hk : k < l.length) : ∃ g, A = some ⟨g, 0, none⟩ ∧ g < w.heap.size ∧ w.cell? ⟨g, k, none⟩ = some (.int .i64 l[k].id) := by
  obtain ⟨g, h1, h2, h3, _⟩ := own_at h (by rw [idsA_len]; exact hk)
  exact ⟨g, h1, h2, by rw [h3]; simp [idsA]⟩
theorem vals_cell {m c : Nat} {A : Option Addr} (h : kI.Own w B (.slice A m c) (valsA l)) {k : Nat} (hk : k < l.length) : ∃ g, A = some ⟨g, 0, none⟩ ∧ g < w.heap.size ∧ w.cell? ⟨g, k, none⟩ = some (.int .i64 l[k].x) ∧ w.frozen? ⟨g, k, none⟩ = false := by
  obtain ⟨g, h1, h2, h3, h4⟩ := own_at h (by rw [valsA_len]; exact hk)
  exact ⟨g, h1, h2, by rw [h3]; simp [valsA], h4⟩
/-- one's own, empty -/
theorem own_zero {B' g : Nat} (hg : w.heap[g]? = some (.cells #[] 3 (0, 0))) (hB : B' ≤ g) : kI.Own w B' (.slice (some ⟨g, 0, none⟩) 0 0) [] :=
  Kind.own_mk (K := kI) (cur := #[]) rfl hB hg (Nat.le_refl _) (by simp [maxLen]) (by simp) (by simp [Kind.cells])
theorem heap_top {w : World} {o : Obj} {g : Nat} (h : g = w.heap.size) : (w.alloc o).heap[g]? = some o := by subst h; exact heap_alloc_new w o
theorem heap_drew {w : World} {o : Obj} {g : Nat} (h : w.heap[g]? = some o) : w.drew.heap[g]? = some o := h
end
/-- a deed in a block of its own -/
def Dd (w : World) (g : Nat) (d : Deed) : Prop := w.heap[g]? = some (.cells #[.int .i64 d.what, .int .i64 d.id, .int .i64 d.n] 32 (0, 0))
section
variable {w w' : World} {g : Nat} {d : Deed}
theorem Dd.lt (h : Dd w g d) : g < w.heap.size := heap_lt h
theorem Dd.c0 (h : Dd w g d) : w.cell? ⟨g, 0, none⟩ = some (.int .i64 d.what) := cell_of_row w g 0 _ _ (0, 0) h
theorem Dd.c1 (h : Dd w g d) : w.cell? ⟨g, 1, none⟩ = some (.int .i64 d.id) := cell_of_row w g 1 _ _ (0, 0) h
theorem Dd.c2 (h : Dd w g d) : w.cell? ⟨g, 2, none⟩ = some (.int .i64 d.n) := cell_of_row w g 2 _ _ (0, 0) h
theorem Dd.below {C : Nat} (h : Dd w g d) (hb : Below C w w') (hC : w.heap.size ≤ C) : Dd w' g d := (hb.block g (by have := h.lt; omega)).trans h
theorem Dd.new (w : World) (d : Deed) : Dd (w.alloc (.cells #[.int .i64 d.what, .int .i64 d.id, .int .i64 d.n] 32)) w.heap.size d := heap_alloc_new w _
theorem Dd.arm {B p R : Nat} {n : Int} {v : Value} {l : List (Sl Int)} (h : Dd w g d) (ha : ArI w B p R n v l) (hb : But (Arm p v) w w') : Dd w' g d :=
  (hb.block g h.lt (ha.other h (by decide) (by decide))).trans h
end
theorem cell_of_deeds {w : World} {B : Nat} {A : Option Addr} {l : List Deed} (h : kD.Holds w B A l) {k : Nat} (hk : k < l.length) :
    ∃ b o, A = some ⟨b, o, none⟩ ∧ b < B ∧ w.cell? ⟨b, o + k * 3, none⟩ = some (.int .i64 l[k].what) ∧ w.cell? ⟨b, o + k * 3 + 1, none⟩ = some (.int .i64 l[k].id) ∧ w.cell? ⟨b, o + k * 3 + 2, none⟩ = some (.int .i64 l[k].n) := by
  obtain ⟨b, o, rfl, hb, hc⟩ := h.at hk
  exact ⟨b, o, rfl, hb, hc 0 _ rfl, hc 1 _ rfl, hc 2 _ rfl⟩
theorem code6_any (w : World) : Calls Try.prog 9 #[.iface 29 (.int .i64 6)] w fun e w' => e = .returned (.int .i64 6) ∧ w = w' := code_any 6 (by omega) (by omega) w

section
variable {w w' : World} {B p R : Nat} {n : Int} {v vi vm : Value} {l : List (Sl Int)}
theorem St.put {v' vi' vm' : Value} {x : Int} {W1 W2 : World} (_h : St w B p R n v vi vm l) (ha : ArI W1 B p R (n + 1) v' (l ++ [⟨n + 1, x⟩])) {C D : Nat} (hi : kI.Own W2 C vi' (idsA l ++ [n + 1])) (hB : Below C W1 W2) (hC : W1.heap.size ≤ C) (hBC : B ≤ C)
    (hm : kI.Own w' D vm' (valsA l ++ [x])) (hB2 : Below D W2 w') (hD : W2.heap.size ≤ D) (hCD : C ≤ D) : St w' B p R (n + 1) v' vi' vm' (l ++ [⟨n + 1, x⟩]) := by
  refine ⟨(ha.below hB hC).below hB2 hD, ?_, ?_, (hi.fresh hm hD)⟩
  · rw [ids_put]; exact (hi.below hB2 hD).base_le hBC
  · rw [vals_put]; exact hm.base_le (by omega)
theorem St.drop_ {v' vi' vm' : Value} {k : Nat} {W1 W2 : World} (ha : ArI W1 B p R n v' (l.eraseIdx k)) {C D : Nat} (hi : kI.Own W2 C vi' ((idsA l).take k ++ (idsA l).drop (k + 1))) (hB : Below C W1 W2) (hC : W1.heap.size ≤ C) (hBC : B ≤ C)
    (hm : kI.Own w' D vm' ((valsA l).take k ++ (valsA l).drop (k + 1))) (hB2 : Below D W2 w') (hD : W2.heap.size ≤ D) (hCD : C ≤ D) : St w' B p R n v' vi' vm' (l.eraseIdx k) := by
  refine ⟨(ha.below hB hC).below hB2 hD, ?_, ?_, (hi.fresh hm hD)⟩
  · rw [ids_drop]; exact (hi.below hB2 hD).base_le hBC
  · rw [vals_drop]; exact hm.base_le (by omega)
theorem St.set_ {k g m c : Nat} {t x : Int} (hk : posA l t = k) (ht : hasA l t = true) (ha : ArI w B p R n v (l.set k ⟨t, x⟩)) (hi : kI.Own w B vi (idsA l)) (hm : kI.Own w B (.slice (some ⟨g, 0, none⟩) m c) (valsA l)) (hap : Apart vi (.slice (some ⟨g, 0, none⟩) m c)) :
    St (w.setCell ⟨g, k, none⟩ (.int .i64 x)) B p R n v vi (.slice (some ⟨g, 0, none⟩) m c) (l.set k ⟨t, x⟩) := by
  obtain ⟨d, hd⟩ := hm.ty rfl
  have hat : atB l k t = true := by rw [← hk]; exact ht
  refine ⟨ha.keep (Below.heap_setCell _ _ _ _ ?_) (fun g' hg => Below.heap_setCell _ _ _ _ ?_), ?_, ?_, hap⟩
  · rintro rfl; exact heap_ne hd ha.blk (by decide) rfl
  · rintro rfl
    obtain ⟨d', hd'⟩ := ha.own.ty hg
    exact heap_ne hd hd' (by decide) rfl
  · rw [ids_set hat]
    exact hi.keep fun g' hg => Below.heap_setCell _ _ _ _ (by rintro rfl; exact hap _ hg rfl)
  · rw [vals_set]
    exact Kind.Own.set_ hm (own_holds hm).1 (by simp) (intsI_set _ _ _)
theorem St.clone {p' : Nat} {v' : Value} {W1 : World} (h : St w B p R n v vi vm l) (hBw : B ≤ w.heap.size) (ha : ArI W1 w.heap.size p' R n v' l) (hB : Below w.heap.size w W1) (hb : But (Arm p v) W1 w') : St w' B p' R n v' vi vm l := by
  have hs := h.below hB (Nat.le_refl _)
  refine ⟨(ha.but hb ?_ ?_).base_le hBw, own_armI hs.ids hs.ar hb, own_armI hs.vals hs.ar hb, h.ap⟩
  · intro hk
    have h1 := h.ar.lt_arm hk
    have h2 := ha.base
    omega
  · intro g hg hk
    have h1 := h.ar.lt_arm hk
    have h2 := (ha.own.lt hg).1
    omega
end
end Go.Proofs.Ytfenfenhihmmiaa.P4
