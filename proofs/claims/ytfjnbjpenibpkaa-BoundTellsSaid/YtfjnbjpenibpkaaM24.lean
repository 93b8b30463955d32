/- What placketref11.Of answers, of a program that is what is wanted, told back. No condition but those stated. -/
import Derived.Deep.DrawnRows
import Derived.Deep.RegionHeld3
import Derived.Deep.DeepCutAuto
import Derived.Test.YtfjnbjpenibpkaaM20
import Derived.Test.YtfjnbjpenibpkaaM21
import Derived.Test.YtfjnbjpenibpkaaM22
import Derived.Test.YtfjnbjpenibpkaaM23
set_option linter.unusedVariables false
set_option linter.unusedSimpArgs false
set_option linter.unusedVariables false
set_option linter.unusedSimpArgs false
namespace Go.Proofs.Ytfjnbjpenibpkaa.P14
open Go.RowKit Kd P4 P5 P11 P12 P13
attribute [local go_sem ↓] Go.wp_at_zero Go.wp_at_succ

def zB : ByteArray := ⟨#[]⟩
def litW (k : Int) (t : ByteArray) : WV := .mk k zB zB t ⟨none, 0, 0⟩ [] ⟨none, 0, 0⟩ []
theorem litW_new (w : World) (k : Int) (t : ByteArray) (Q : Nat → Prop) : WNew kQ w Q (litW k t) := WNew.mk (sk := ⟨none, 0, 0⟩) (AOk.nil_ w) (Kind.Own.nil kQ w 0) (fun b hb => by cases hb) (fun k hk => by cases hk)
theorem litW_er (k : Int) (t : ByteArray) : er (litW k t) = .mk k z0 z0 t [] [] := by rw [litW, er, erL]; rfl
theorem first_ins {l pre post : List In} {e : PW} {x : In} {r : List In} (he : l = pre ++ (backW e ++ post)) (hx : backW e = x :: r) (h : pre.length < l.length) : l[pre.length] = x := by
  have := at_pre he (i := 0) (by simpa using h) (by rw [hx]; simp)
  simp only [Nat.add_zero] at this
  rw [this]
  simp [hx]
theorem len_back {l : List PW} (h : ∀ t ∈ l, WfW t) : l.length ≤ (backL l).length := by
  have := wt_back h
  have := wtL_len l
  omega
theorem back_take {ws : List PW} {j : Nat} (h : j < ws.length) : backL (ws.take (j + 1)) = backL (ws.take j) ++ backW ws[j] := by
  rw [List.take_add_one, List.getElem?_eq_getElem h, backL_append, Option.toList_some, backL_one]
theorem back_split {ws : List PW} {j : Nat} (h : j < ws.length) : backL ws = backL (ws.take j) ++ (backW ws[j] ++ backL (ws.drop (j + 1))) := by
  conv => lhs; rw [← List.take_append_drop (j + 1) ws, backL_append, back_take h]
  rw [List.append_assoc]
def OfRel (w : World) (ws : List PW) (s3 s4 : Value) (wr : World) : Prop := ∃ (j : Nat) (A' : Option Addr) (n' c' : Nat) (us : List WV), j ≤ ws.length ∧ s4 = .int .i64 ((backL (ws.take j)).length : Nat) ∧ s3 = .slice A' n' c' ∧ Hid (erL us = ws.take j) ∧ Hid (kQ.Own wr w.heap.size (.slice A' n' c') us) ∧ Hid (∀ t ∈ us, WNew kQ wr (fun b => w.heap.size ≤ b ∧ (Value.slice A' n' c').ownBlock ≠ some b) t) ∧ Hid (Below w.heap.size w wr)
/-- the element at hand, in its block -/
def TQ (w : World) (g : Nat) (tag key : ByteArray) (A : Option Addr) (n c : Nat) (A2 : Option Addr) (n2 c2 : Nat) : Prop := w.heap[g]? = some (.cells #[.int .i64 1, .string tag, .string key, .string zB, .slice A n c, .slice A2 n2 c2] 44 (0, 0))
section
variable {w w' : World} {g : Nat} {tag key : ByteArray} {A A2 : Option Addr} {n c n2 k2 : Nat}
theorem TQ.c0 (h : TQ w g tag key A n c A2 n2 k2) : w.cell? ⟨g, 0, none⟩ = some (.int .i64 1) := cell_of_row w g 0 _ _ (0, 0) h
theorem TQ.c1 (h : TQ w g tag key A n c A2 n2 k2) : w.cell? ⟨g, 1, none⟩ = some (.string tag) := cell_of_row w g 1 _ _ (0, 0) h
theorem TQ.c2 (h : TQ w g tag key A n c A2 n2 k2) : w.cell? ⟨g, 2, none⟩ = some (.string key) := cell_of_row w g 2 _ _ (0, 0) h
theorem TQ.c3 (h : TQ w g tag key A n c A2 n2 k2) : w.cell? ⟨g, 3, none⟩ = some (.string zB) := cell_of_row w g 3 _ _ (0, 0) h
theorem TQ.c4 (h : TQ w g tag key A n c A2 n2 k2) : w.cell? ⟨g, 4, none⟩ = some (.slice A n c) := cell_of_row w g 4 _ _ (0, 0) h
theorem TQ.c5 (h : TQ w g tag key A n c A2 n2 k2) : w.cell? ⟨g, 5, none⟩ = some (.slice A2 n2 k2) := cell_of_row w g 5 _ _ (0, 0) h
theorem TQ.fr (h : TQ w g tag key A n c A2 n2 k2) (k : Nat) : w.frozen? ⟨g, k, none⟩ = false := by simp [World.frozen?, (show w.heap[g]? = _ from h)]
end
structure ASt (W wr : World) (tag key : ByteArray) (A : Option Addr) (n c : Nat) (ats : List P3.At) : Prop where
  tq : TQ wr W.heap.size tag key A n c none 0 0
  own : kA.Own wr (W.heap.size + 1) (.slice A n c) ats
  hb : Below W.heap.size W wr
theorem ASt.app {W wr w7 : World} {o : Obj} {tag key : ByteArray} {A A7 : Option Addr} {n c n7 c7 : Nat} {ats : List P3.At} {a : P3.At} (h : ASt W wr tag key A n c ats) (hg : (wr.drew.alloc o).grownBy w7 (Value.slice A n c).ownBlock) (hown : kA.Own w7 (W.heap.size + 1) (.slice A7 n7 c7) (ats ++ [a])) :
    ASt W (w7.setCell ⟨W.heap.size, 4, none⟩ (.slice A7 n7 c7)) tag key A7 n7 c7 (ats ++ [a]) := by
  have hlt := heap_lt h.tq
  have t7 : w7.heap[W.heap.size]? = some (.cells #[.int .i64 1, .string tag, .string key, .string zB, .slice A n c, .slice none 0 0] 44 (0, 0)) :=
    (hg.block _ (by simp; omega) (fun e => by have := (h.own.lt e.symm).1; omega)).trans (heap_up (w := wr.drew) h.tq)
  have b7 : Below W.heap.size W w7 := (h.hb.drew.alloc h.hb.size o).grown hg (by have := h.hb.size; simp; omega) (fun k hk => by have := (h.own.lt hk).1; omega)
  refine ⟨heap_set t7 4 _, hown.keep (fun b hb => Below.heap_setCell _ _ _ _ (fun e => by have := (hown.lt hb).1; simp at e; omega)), ?_⟩
  · have := But.setCell (S := fun b => b = W.heap.size) (p := ⟨W.heap.size, 4, none⟩) (But.refl _ w7) (fun _ => rfl) (.slice A7 n7 c7)
    exact b7.trans (this.to_below (fun i _ hi => by omega) b7.size)
theorem ASt.kids {W wr w2 : World} {tag key : ByteArray} {A Ak : Option Addr} {n c nk ck : Nat} {ats : List P3.At} (h : ASt W wr tag key A n c ats) (hb : Below wr.heap.size wr w2) :
    TQ (w2.setCell ⟨W.heap.size, 5, none⟩ (.slice Ak nk ck)) W.heap.size tag key A n c Ak nk ck ∧ kA.Own (w2.setCell ⟨W.heap.size, 5, none⟩ (.slice Ak nk ck)) (W.heap.size + 1) (.slice A n c) ats ∧ Below W.heap.size W (w2.setCell ⟨W.heap.size, 5, none⟩ (.slice Ak nk ck)) := by
  have hlt := heap_lt h.tq
  have t2 := (hb.block _ hlt).trans h.tq
  refine ⟨heap_set t2 5 _, (h.own.below hb (Nat.le_refl _)).keep (fun b hb => Below.heap_setCell _ _ _ _ (fun e => by have := (h.own.lt hb).1; simp at e; omega)), ?_⟩
  · have := But.setCell (S := fun b => b = W.heap.size) (p := ⟨W.heap.size, 5, none⟩) (But.refl _ w2) (fun _ => rfl) (.slice Ak nk ck)
    have b2 := h.hb.trans (hb.mono h.hb.size)
    exact b2.trans (this.to_below (fun i _ hi => by omega) b2.size)
/-- a row of what is wanted in another block is not disturbed by a cell of this one -/
theorem own_set5 {w2 : World} {g C : Nat} {v u : Value} {ks : List WV} (h : kQ.Own w2 C v ks) (hg : g < C) (i : Nat) : kQ.Own (w2.setCell ⟨g, i, none⟩ u) C v ks := h.keep (fun b hb => Below.heap_setCell _ _ _ _ (by rintro rfl; have := (h.lt hb).1; omega))
theorem new_set5 {w2 : World} {g : Nat} {u : Value} {t : WV} {Q : Nat → Prop} (h : WNew kQ w2 Q t) (hq : ∀ b, Q b → b ≠ g) (hg : ∃ cur, w2.heap[g]? = some (.cells cur 44 (0, 0))) (i : Nat) : WNew kQ (w2.setCell ⟨g, i, none⟩ u) Q t :=
  h.but (But.setCell (S := fun b => b = g) (p := ⟨g, i, none⟩) (But.refl _ _) (fun _ => rfl) u) hq (kind_noA (e := 44) (by decide) (fun b e => by subst e; exact hg))
def AtRel (W : World) (tag key : ByteArray) (attrs : List P3.At) (i : Nat) (s6 : Value) (wr : World) : Prop := ∃ (m : Nat) (A : Option Addr) (n c : Nat), m ≤ attrs.length ∧ s6 = .int .i64 ((i + 1 + m : Nat) : Int) ∧ Hid (ASt W wr tag key A n c (attrs.take m))
end Go.Proofs.Ytfjnbjpenibpkaa.P14
