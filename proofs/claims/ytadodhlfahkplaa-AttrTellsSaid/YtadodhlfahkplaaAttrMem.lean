/- Attributes as they lie in memory: a slice's cells, three an attribute; a block that is known whole; a slice of the call's own. No condition. -/
import Derived.Test.YtadodhlfahkplaaChecked
import Derived.Test.YtadodhlfahkplaaPlain3
import Derived.WalkKit
import Derived.ProofKit
import Derived.Outline
import Derived.WalkLawsBesides
import Derived.WalkSpells
import Derived.OwnWalk
import Derived.Below
import Derived.Maps.AppendAt
import Derived.Laws.AppendOwnNone
import Derived.Deep.QuietTactic
import Derived.BigQuiet
import Derived.Laws.StructEq
import Derived.Lib.Hide
namespace Go.Proofs.Ytadodhlfahkplaa.P3
open Go.RowKit

theorem Below_drewN {B : Nat} {a w : World} (h : Below B a w) (n : Nat) : Below B a (w.drewN n) := ⟨h.os, h.tape, h.output, h.size, h.block⟩
theorem ret_bool {a b : Bool} (h : a = b) : Ending.returned (.bool a) = .returned (.bool b) := by rw [h]

/-! ### A slice that is read -/
/-- the slice at A holds the attributes l, below block B -/
def Holds (w : World) (B : Nat) (A : Option Addr) (l : List At) : Prop :=
  ∀ k (h : k < l.length), ∃ b o, A = some ⟨b, o, none⟩ ∧ b < B ∧ w.cell? ⟨b, o + k * 3, none⟩ = some (.string l[k].nm) ∧ w.cell? ⟨b, o + k * 3 + 1, none⟩ = some (.string l[k].vl) ∧ w.cell? ⟨b, o + k * 3 + 2, none⟩ = some (.bool l[k].st)

theorem Holds.below {w w' : World} {B C : Nat} {A : Option Addr} {l : List At} (h : Holds w B A l) (hb : Below C w w') (hBC : B ≤ C) : Holds w' B A l := by
  intro k hk
  obtain ⟨b, o, hA, hlt, h0, h1, h2⟩ := h k hk
  refine ⟨b, o, hA, hlt, ?_, ?_, ?_⟩
  · rw [hb.cell (by show b < C; omega)]; exact h0
  · rw [hb.cell (by show b < C; omega)]; exact h1
  · rw [hb.cell (by show b < C; omega)]; exact h2
theorem Holds.more {w : World} {B B' : Nat} {A : Option Addr} {l : List At} (h : Holds w B A l) (hB : B ≤ B') : Holds w B' A l := by
  intro k hk
  obtain ⟨b, o, hA, hlt, h0⟩ := h k hk
  exact ⟨b, o, hA, by omega, h0⟩
theorem Holds.take {w : World} {B : Nat} {A : Option Addr} {l : List At} (h : Holds w B A l) (n : Nat) : Holds w B A (l.take n) := by
  intro k hk
  obtain ⟨b, o, hA, hlt, h0⟩ := h k (by rw [List.length_take] at hk; omega)
  exact ⟨b, o, hA, hlt, by simpa using h0⟩
theorem Holds.grown {w w' : World} {B : Nat} {A : Option Addr} {l : List At} {row : Option Nat} (h : Holds w B A l) (hg : w.grownBy w' row) (hB : B ≤ w.heap.size) (hr : ∀ b o, A = some ⟨b, o, none⟩ → some b ≠ row) : Holds w' B A l := by
  intro k hk
  obtain ⟨b, o, hA, hlt, h0, h1, h2⟩ := h k hk
  have key : ∀ i, w'.cell? ⟨b, i, none⟩ = w.cell? ⟨b, i, none⟩ := fun i => World.cell?_of_block (hg.block b (by omega) (hr b o hA))
  exact ⟨b, o, hA, hlt, by rw [key]; exact h0, by rw [key]; exact h1, by rw [key]; exact h2⟩
theorem Holds.one {w : World} {g : Nat} {a : At} (h : w.heap[g]? = some (.cells #[.string a.nm, .string a.vl, .bool a.st] 26 (0, 0))) : Holds w (g + 1) (some ⟨g, 0, none⟩) [a] := by
  intro k hk
  have : k = 0 := by simpa using hk
  subst this
  exact ⟨g, 0, rfl, by omega, cell_of_row w g 0 _ _ (0, 0) h, cell_of_row w g 1 _ _ (0, 0) h, cell_of_row w g 2 _ _ (0, 0) h⟩
/-- into a later world of a call -/
theorem Holds.on {w w' : World} {A : Option Addr} {l : List At} (h : Holds w w.heap.size A l) (hb : Below w.heap.size w w') : Holds w' w'.heap.size A l := (h.below hb (Nat.le_refl _)).more hb.size

/-! ### A block that is known whole -/
def Blk (w : World) (g : Nat) (a : At) : Prop := w.heap[g]? = some (.cells #[.string a.nm, .string a.vl, .bool a.st] 26 (0, 0))
section
variable {w w' : World} {g : Nat} {a : At}
theorem Blk.lt (h : Blk w g a) : g < w.heap.size := by
  rcases Nat.lt_or_ge g w.heap.size with hlt | hge
  · exact hlt
  · unfold Blk at h; rw [Array.getElem?_eq_none hge] at h; cases h
theorem Blk.c0 (h : Blk w g a) : w.cell? ⟨g, 0, none⟩ = some (.string a.nm) := cell_of_row w g 0 _ _ (0, 0) h
theorem Blk.c1 (h : Blk w g a) : w.cell? ⟨g, 1, none⟩ = some (.string a.vl) := cell_of_row w g 1 _ _ (0, 0) h
theorem Blk.c2 (h : Blk w g a) : w.cell? ⟨g, 2, none⟩ = some (.bool a.st) := cell_of_row w g 2 _ _ (0, 0) h
theorem Blk.frozen (h : Blk w g a) (i : Nat) : w.frozen? ⟨g, i, none⟩ = false := by
  unfold Blk at h
  simp [World.frozen?, h]
theorem Blk.new (w : World) (a : At) : Blk (w.alloc (.cells #[.string a.nm, .string a.vl, .bool a.st] 26)) w.heap.size a := heap_alloc_new w _
theorem Blk.newS (w : World) {a : At} {s : Bool} (h : a.st = s) : Blk (w.alloc (.cells #[.string a.nm, .string a.vl, .bool s] 26)) w.heap.size a := by
  subst h; exact Blk.new w a
theorem Blk.new2 (w : World) (o : Obj) (a : At) : Blk ((w.alloc o).alloc (.cells #[.string a.nm, .string a.vl, .bool a.st] 26)) (w.heap.size + 1) a := by
  have := Blk.new (w.alloc o) a
  simpa using this
theorem Blk.alloc (h : Blk w g a) (o : Obj) : Blk (w.alloc o) g a := (Below.heap_alloc w o g h.lt).trans h
theorem Blk.far (h : Blk w g a) {p : Addr} (hp : g ≠ p.block) (u : Value) : Blk (w.setCell p u) g a := (Below.heap_setCell w p u g hp).trans h
theorem Blk.set3 {a' : At} (h : Blk w g a) : Blk (((w.setCell ⟨g, 0, none⟩ (.string a'.nm)).setCell ⟨g, 1, none⟩ (.string a'.vl)).setCell ⟨g, 2, none⟩ (.bool a'.st)) g a' := by
  unfold Blk at h ⊢
  simp [World.setCell, Array.getElem?_modify, h]
theorem Blk.below {B : Nat} (h : Blk w g a) (hb : Below B w w') (hg : g < B) : Blk w' g a := (hb.block g hg).trans h
theorem Blk.drewN (h : Blk w g a) (n : Nat) : Blk (w.drewN n) g a := h
end

/-! ### A slice of the call's own -/
theorem infoA : (Try.prog.info? 26).map (fun i => (i.zero, i.size, i.bytes)) = some (some (.agg #[.string ⟨#[]⟩, .string ⟨#[]⟩, .bool false]), 3, 40) := by kernel_rfl
def cellsA (l : List At) : List Value := l.flatMap fun a => [.string a.nm, .string a.vl, .bool a.st]
theorem cellsA_len (l : List At) : (cellsA l).length = l.length * 3 := by
  induction l with
  | nil => rfl
  | cons a l ih => simp only [cellsA, List.flatMap_cons, List.length_append, List.length_cons, List.length_nil] at ih ⊢; omega
theorem cellsA_append (l m : List At) : cellsA (l ++ m) = cellsA l ++ cellsA m := by simp [cellsA]
theorem cellsA_take (l : List At) (k : Nat) : cellsA (l.take k) = (cellsA l).take (k * 3) := by
  induction l generalizing k with
  | nil => simp [cellsA]
  | cons a l ih =>
    cases k with
    | zero => simp [cellsA]
    | succ k =>
      have := ih k
      rw [show (k + 1) * 3 = k * 3 + 3 by omega]
      simp only [List.take_succ_cons, cellsA, List.flatMap_cons] at this ⊢
      rw [this]
      simp
theorem cellsA_at (l : List At) (k : Nat) (h : k < l.length) : (cellsA l)[k * 3]? = some (.string l[k].nm) ∧ (cellsA l)[k * 3 + 1]? = some (.string l[k].vl) ∧ (cellsA l)[k * 3 + 2]? = some (.bool l[k].st) := by
  induction l generalizing k with
  | nil => simp at h
  | cons a l ih =>
    cases k with
    | zero => simp [cellsA]
    | succ k =>
      have := ih k (by simpa using h)
      rw [show (k + 1) * 3 = k * 3 + 3 by omega]
      simp only [cellsA, List.flatMap_cons, List.cons_append, List.nil_append, List.getElem_cons_succ] at this ⊢
      simpa using this
theorem cellsA_one (l : List At) : ∀ u ∈ cellsA l, u.oneCell' = true := by
  intro u hu
  simp only [cellsA, List.mem_flatMap] at hu
  obtain ⟨a, _, ha⟩ := hu
  simp only [List.mem_cons, List.not_mem_nil, or_false] at ha
  rcases ha with rfl | rfl | rfl <;> rfl

def Own (w : World) (base : Nat) (v : Value) (l : List At) : Prop := w.ownsRow base 26 3 v l.length (cellsA l)
section
variable {w w' : World} {base : Nat} {v : Value} {l : List At}
theorem Own.nil (w : World) (base : Nat) : Own w base (.slice none 0 0) [] := World.ownsRow_nil w base 26 3
theorem Own.kept {row : Option Nat} (h : Own w base v l) (hg : w.grownBy w' row) (hne : v.ownBlock = none ∨ v.ownBlock ≠ row) : Own w' base v l := World.ownsRow.kept h hg hne
theorem Own.alloc (h : Own w base v l) (o : Obj) : Own (w.alloc o) base v l := World.ownsRow.alloc h o
theorem Own.drewN (h : Own w base v l) (n : Nat) : Own (w.drewN n) base v l := h
theorem Own.below {B : Nat} (h : Own w base v l) (hb : Below B w w') (hB : w.heap.size ≤ B) : Own w' base v l := by
  obtain ⟨h1, h2⟩ := h
  refine ⟨h1, ?_⟩
  rcases h2 with h2 | ⟨g, cap, cur, hv, hg, hh, r⟩
  · exact .inl h2
  · have hlt : g < w.heap.size := by
      rcases Nat.lt_or_ge g w.heap.size with hlt | hge
      · exact hlt
      · rw [Array.getElem?_eq_none hge] at hh; cases hh
    exact .inr ⟨g, cap, cur, hv, hg, (hb.block g (by omega)).trans hh, r⟩
theorem Own.base_le {base' : Nat} (h : Own w base v l) (hb : base' ≤ base) : Own w base' v l := by
  obtain ⟨h1, h2⟩ := h
  refine ⟨h1, ?_⟩
  rcases h2 with h2 | ⟨g, cap, cur, hv, hg, r⟩
  · exact .inl h2
  · exact .inr ⟨g, cap, cur, hv, by omega, r⟩
/-- a slice of one's own, as a slice that is read -/
theorem Own.slice (h : Own w base v l) : ∃ A n c, v = .slice A n c ∧ l.length = n ∧ n ≤ c ∧ c ≤ maxLen ∧ (A = Option.none → c = 0) ∧ (∀ b o, A = some ⟨b, o, Option.none⟩ → base ≤ b ∧ b < w.heap.size) ∧ Holds w w.heap.size A l := by
  obtain ⟨h1, h2⟩ := h
  rcases h2 with ⟨rfl, hn⟩ | ⟨g, cap, cur, rfl, hg, hh, hnc, hcm, hcs, ht⟩
  · refine ⟨Option.none, 0, 0, rfl, hn, by omega, by unfold maxLen; omega, fun _ => rfl, fun _ _ e => (by cases e), fun k hk => absurd hk (by omega)⟩
  · have hlt : g < w.heap.size := by
      rcases Nat.lt_or_ge g w.heap.size with hlt | hge
      · exact hlt
      · rw [Array.getElem?_eq_none hge] at hh; cases hh
    refine ⟨_, l.length, cap, rfl, rfl, hnc, hcm, fun e => (by cases e), fun b o e => (by injection e with e; injection e with e1; subst e1; exact ⟨hg, hlt⟩), fun k hk => ⟨g, 0, rfl, hlt, ?_⟩⟩
    · have key : ∀ (j : Nat) (u : Value), (cellsA l)[j]? = some u → w.cell? ⟨g, j, none⟩ = some u := by
        intro j u hj
        rw [cell_of_row w g j _ _ _ hh, ← Array.getElem?_toList]
        rw [← ht, List.getElem?_take] at hj
        split at hj
        · exact hj
        · cases hj
      obtain ⟨k0, k1, k2⟩ := cellsA_at l k hk
      rw [Nat.zero_add]
      exact ⟨key _ _ k0, key _ _ k1, key _ _ k2⟩
/-- cut at k -/
theorem Own.cut {A : Option Addr} {n c k : Nat} (h : Own w base (.slice A n c) l) (hk : k ≤ l.length) : Own w base (.slice A k c) (l.take k) := by
  obtain ⟨h1, h2⟩ := h
  have hl : (l.take k).length = k := by rw [List.length_take]; omega
  refine ⟨cellsA_len _, ?_⟩
  rw [hl]
  rcases h2 with ⟨hv, hn⟩ | ⟨g, cap, cur, hv, hg, hh, hnc, hcm, hcs, ht⟩
  · simp only [Value.slice.injEq] at hv
    obtain ⟨rfl, rfl, rfl⟩ := hv
    have : k = 0 := by omega
    subst this
    exact .inl ⟨rfl, rfl⟩
  · simp only [Value.slice.injEq] at hv
    obtain ⟨rfl, rfl, rfl⟩ := hv
    refine .inr ⟨g, c, cur, rfl, hg, hh, by omega, hcm, hcs, ?_⟩
    rw [cellsA_take, ← ht, List.take_take]
    congr 1
    have := Nat.mul_le_mul_right 3 hk
    omega
end
/-- append onto a slice of one's own, whatever is appended: nil, or not -/
theorem wp_app {ops : Array Oper} {rest : List Oper} {o : Oper} {a : Act} {Q : Exit → Act → World → Prop} (hgd : o.guard = none) (s x : Operand)
    (ho : o.op = .call { callee := .builtin .append, args := #[s, x], argTypes := #[22, 22] })
    {w : World} {base B n c : Nat} {v : Value} {l m : List At} {A : Option Addr} (hs : a.eval s = v) (hown : Own w base v l) (hx : a.eval x = .slice A n c) (hn : m.length = n) (hc : A = none → c = 0) (hm : Holds w B A m)
    (hl : l.length + n ≤ 10000000) (hbase : base ≤ w.heap.size)
    (h : ∀ v' w', Own w' base v' (l ++ m) → w.grownBy w' v.ownBlock → (v'.ownBlock = v.ownBlock ∨ v'.ownBlock = some w.heap.size) → wpList Try.prog ops Q rest (a.put o.dst v') w') : wpList Try.prog ops Q (o :: rest) a w := by
  obtain ⟨i0, hi, hz0, hz1, hz2⟩ := info_parts infoA
  cases A with
  | none =>
    have hm0 : m = [] := by
      cases m with
      | nil => rfl
      | cons b r => obtain ⟨b, o, hA, _⟩ := hm 0 (by simp); cases hA
    subst hm0
    subst hn
    rw [hc rfl] at hx
    refine wpList_append_own_none hgd s x 22 ho base 26 i0 3 Try.underlying22 hi v _ _ hs hown hx ?_
    exact h v w (by simpa using hown) (World.grownBy.refl _ _) (.inl rfl)
  | some ad =>
    subst hn
    refine wpList_append_own_at w hgd s x 22 ho base 26 i0 _ 3 40 Try.underlying22 hi hz0 hz1 hz2 rfl (by decide) v _ _ hs hown ad m.length c (cellsA m) hx (cellsA_len m) ?_ (cellsA_one m) (by unfold maxLen; omega) (by omega) hbase ?_
    · intro j u hj
      have hj3 : j < m.length * 3 := by
        rw [← cellsA_len]
        exact (List.getElem?_eq_some_iff.1 hj).1
      obtain ⟨b, o, hA, hlt, h0, h1, h2⟩ := hm (j / 3) (by omega)
      obtain ⟨k0, k1, k2⟩ := cellsA_at m (j / 3) (by omega)
      injection hA with hA
      subst hA
      have hadd : (⟨b, o, Option.none⟩ : Addr).add j = ⟨b, o + j, Option.none⟩ := by
        unfold Addr.add
        split
        · rename_i e; subst e; rfl
        · rfl
      rw [hadd]
      have h3 : j = j / 3 * 3 ∨ j = j / 3 * 3 + 1 ∨ j = j / 3 * 3 + 2 := by omega
      rcases h3 with e | e | e
      · rw [← e] at k0 h0; rw [h0, ← k0, hj]
      · rw [← e] at k1; rw [show o + j = o + j / 3 * 3 + 1 by omega, h1, ← k1, hj]
      · rw [← e] at k2; rw [show o + j = o + j / 3 * 3 + 2 by omega, h2, ← k2, hj]
    · intro v' w' hown' hg _ hat
      refine h v' w' ?_ hg hat
      unfold Own
      rw [List.length_append, cellsA_append]
      exact hown'
/-- a post: a slice of one's own that holds l; what was there before is as it was -/
def GivesA (w : World) (l : List At) (e : Ending) (w' : World) : Prop := ∃ v, e = .returned v ∧ Own w' w.heap.size v l ∧ Below w.heap.size w w'

/-! ### Two attributes compared -/
theorem eqg : Try.prog.eqGuardType Try.prog.depth 26 = false := by kernel_rfl
theorem heldA : Try.prog.stoodInHeld 26 = false := by kernel_rfl
theorem eq_run (a b : At) (d : Nat) (w : World) : (Op.equalIn (d + 2) 26 (.agg #[.string a.nm, .string a.vl, .bool a.st]) (.agg #[.string b.nm, .string b.vl, .bool b.st])).run Try.prog w = .ok (atB a b) w := by
  rw [run_equalIn_struct w (d + 1) 26 _ _ (by unfold Program.fieldsOf; rw [Try.underlying26]) heldA]
  simp [Program.fieldsOf, Try.underlying26, Op.eqFields, go_sem, Try.underlying9, Try.underlying4, part]
  unfold atB
  by_cases h1 : a.nm.toList = b.nm.toList <;> by_cases h2 : a.vl.toList = b.vl.toList <;> by_cases h3 : a.st = b.st <;> simp [h1, h2, h3]
theorem neq_at {a b : At} {r : Bool} (h : atB a b = r) (w : World) : (binOp .neq 26 (.agg #[.string a.nm, .string a.vl, .bool a.st]) (.agg #[.string b.nm, .string b.vl, .bool b.st])).run Try.prog w = .ok (.bool (!r)) w := by
  rw [run_neq_struct, eq_run a b 9998 w, h]; rfl
theorem eql_at {a b : At} {r : Bool} (h : atB a b = r) (w : World) : (binOp .eql 26 (.agg #[.string a.nm, .string a.vl, .bool a.st]) (.agg #[.string b.nm, .string b.vl, .bool b.st])).run Try.prog w = .ok (.bool r) w := by
  rw [run_eql_struct, eq_run a b 9998 w, h]; rfl
end Go.Proofs.Ytadodhlfahkplaa.P3
