/- What placketref11.Of answers, of a program that is what is wanted, told back. No condition but those stated. -/
import Derived.Deep.DrawnRows
import Derived.Deep.RegionHeld3
import Derived.Deep.DeepCutAuto
import Derived.Test.YtcdcgdblchchkaaM14
import Derived.Test.YtcdcgdblchchkaaM15
import Derived.Test.YtcdcgdblchchkaaM17
import Derived.Test.YtcdcgdblchchkaaM18
set_option linter.unusedVariables false
set_option linter.unusedSimpArgs false
set_option linter.unusedVariables false
set_option linter.unusedSimpArgs false
namespace Go.Proofs.Ytcdcgdblchchkaa.P14
open Go.RowKit Kd P4 P5 P11 P12 P13
attribute [local go_sem ↓] Go.wp_at_zero Go.wp_at_succ

def zB : ByteArray := ⟨#[]⟩
def litW (k : Int) (t : ByteArray) : WV := .mk k zB zB t ⟨none, 0, 0⟩ [] ⟨none, 0, 0⟩ []
theorem litW_new (w : World) (k : Int) (t : ByteArray) (Q : Nat → Prop) : WNew kQ w Q (litW k t) := WNew.mk (sk := ⟨none, 0, 0⟩) (AOk.nil_ w) (Kind.Own.nil kQ w 0) (fun b hb => by cases hb) (fun k hk => by cases hk)
theorem litW_er (k : Int) (t : ByteArray) : er (litW k t) = .mk k z0 z0 t [] [] := by rw [litW, er, erL]; rfl
theorem first_ins {l pre post : List In} {e : PW} {x : In} {r : List In} (he : l = pre ++ (backW e ++ post)) (hx : backW e = x :: r) (h : pre.length < l.length) : l[pre.length] = x := by
  have := at_pre he (i := 0) (by simpa using h) (by rw [hx]; simp)
  simp only [Nat.add_zero] at this
  rw [this]
  simp [hx]
theorem len_back {l : List PW} (h : ∀ t ∈ l, WfW t) : l.length ≤ (backL l).length := by
  have := wt_back h
  have := wtL_len l
  omega
theorem back_take {ws : List PW} {j : Nat} (h : j < ws.length) : backL (ws.take (j + 1)) = backL (ws.take j) ++ backW ws[j] := by
  rw [List.take_add_one, List.getElem?_eq_getElem h, backL_append, Option.toList_some, backL_one]
theorem back_split {ws : List PW} {j : Nat} (h : j < ws.length) : backL ws = backL (ws.take j) ++ (backW ws[j] ++ backL (ws.drop (j + 1))) := by
  conv => lhs; rw [← List.take_append_drop (j + 1) ws, backL_append, back_take h]
  rw [List.append_assoc]
def OfRel (w : World) (ws : List PW) (s3 s4 : Value) (wr : World) : Prop := ∃ (j : Nat) (A' : Option Addr) (n' c' : Nat) (us : List WV), j ≤ ws.length ∧ s4 = .int .i64 ((backL (ws.take j)).length : Nat) ∧ s3 = .slice A' n' c' ∧ Hid (erL us = ws.take j) ∧ Hid (kQ.Own wr w.heap.size (.slice A' n' c') us) ∧ Hid (∀ t ∈ us, WNew kQ wr (fun b => w.heap.size ≤ b ∧ (Value.slice A' n' c').ownBlock ≠ some b) t) ∧ Hid (Below w.heap.size w wr)
/-- the element at hand, in its block -/
def TQ (w : World) (g : Nat) (tag key : ByteArray) (A : Option Addr) (n c : Nat) (A2 : Option Addr) (n2 c2 : Nat) : Prop := w.heap[g]? = some (.cells #[.int .i64 1, .string tag, .string key, .string zB, .slice A n c, .slice A2 n2 c2] 57 (0, 0))
section
variable {w w' : World} {g : Nat} {tag key : ByteArray} {A A2 : Option Addr} {n c n2 k2 : Nat}
theorem TQ.c0 (h : TQ w g tag key A n c A2 n2 k2) : w.cell? ⟨g, 0, none⟩ = some (.int .i64 1) := cell_of_row w g 0 _ _ (0, 0) h
theorem TQ.c1 (h : TQ w g tag key A n c A2 n2 k2) : w.cell? ⟨g, 1, none⟩ = some (.string tag) := cell_of_row w g 1 _ _ (0, 0) h
theorem TQ.c2 (h : TQ w g tag key A n c A2 n2 k2) : w.cell? ⟨g, 2, none⟩ = some (.string key) := cell_of_row w g 2 _ _ (0, 0) h
theorem TQ.c3 (h : TQ w g tag key A n c A2 n2 k2) : w.cell? ⟨g, 3, none⟩ = some (.string zB) := cell_of_row w g 3 _ _ (0, 0) h
theorem TQ.c4 (h : TQ w g tag key A n c A2 n2 k2) : w.cell? ⟨g, 4, none⟩ = some (.slice A n c) := cell_of_row w g 4 _ _ (0, 0) h
theorem TQ.c5 (h : TQ w g tag key A n c A2 n2 k2) : w.cell? ⟨g, 5, none⟩ = some (.slice A2 n2 k2) := cell_of_row w g 5 _ _ (0, 0) h
theorem TQ.fr (h : TQ w g tag key A n c A2 n2 k2) (k : Nat) : w.frozen? ⟨g, k, none⟩ = false := by simp [World.frozen?, (show w.heap[g]? = _ from h)]
end
structure ASt (W wr : World) (tag key : ByteArray) (A : Option Addr) (n c : Nat) (ats : List P3.At) : Prop where
  tq : TQ wr W.heap.size tag key A n c none 0 0
  own : kA.Own wr (W.heap.size + 1) (.slice A n c) ats
  hb : Below W.heap.size W wr
theorem ASt.app {W wr w7 : World} {o : Obj} {tag key : ByteArray} {A A7 : Option Addr} {n c n7 c7 : Nat} {ats : List P3.At} {a : P3.At} (h : ASt W wr tag key A n c ats) (hg : (wr.drew.alloc o).grownBy w7 (Value.slice A n c).ownBlock) (hown : kA.Own w7 (W.heap.size + 1) (.slice A7 n7 c7) (ats ++ [a])) :
    ASt W (w7.setCell ⟨W.heap.size, 4, none⟩ (.slice A7 n7 c7)) tag key A7 n7 c7 (ats ++ [a]) := by
  have hlt := heap_lt h.tq
  have t7 : w7.heap[W.heap.size]? = some (.cells #[.int .i64 1, .string tag, .string key, .string zB, .slice A n c, .slice none 0 0] 57 (0, 0)) :=
    (hg.block _ (by simp; omega) (fun e => by have := (h.own.lt e.symm).1; omega)).trans (heap_up (w := wr.drew) h.tq)
  have b7 : Below W.heap.size W w7 := (h.hb.drew.alloc h.hb.size o).grown hg (by have := h.hb.size; simp; omega) (fun k hk => by have := (h.own.lt hk).1; omega)
  refine ⟨heap_set t7 4 _, hown.keep (fun b hb => Below.heap_setCell _ _ _ _ (fun e => by have := (hown.lt hb).1; simp at e; omega)), ?_⟩
  · have := But.setCell (S := fun b => b = W.heap.size) (p := ⟨W.heap.size, 4, none⟩) (But.refl _ w7) (fun _ => rfl) (.slice A7 n7 c7)
    exact b7.trans (this.to_below (fun i _ hi => by omega) b7.size)
theorem ASt.kids {W wr w2 : World} {tag key : ByteArray} {A Ak : Option Addr} {n c nk ck : Nat} {ats : List P3.At} (h : ASt W wr tag key A n c ats) (hb : Below wr.heap.size wr w2) :
    TQ (w2.setCell ⟨W.heap.size, 5, none⟩ (.slice Ak nk ck)) W.heap.size tag key A n c Ak nk ck ∧ kA.Own (w2.setCell ⟨W.heap.size, 5, none⟩ (.slice Ak nk ck)) (W.heap.size + 1) (.slice A n c) ats ∧ Below W.heap.size W (w2.setCell ⟨W.heap.size, 5, none⟩ (.slice Ak nk ck)) := by
  have hlt := heap_lt h.tq
  have t2 := (hb.block _ hlt).trans h.tq
  refine ⟨heap_set t2 5 _, (h.own.below hb (Nat.le_refl _)).keep (fun b hb => Below.heap_setCell _ _ _ _ (fun e => by have := (h.own.lt hb).1; simp at e; omega)), ?_⟩
  · have := But.setCell (S := fun b => b = W.heap.size) (p := ⟨W.heap.size, 5, none⟩) (But.refl _ w2) (fun _ => rfl) (.slice Ak nk ck)
    have b2 := h.hb.trans (hb.mono h.hb.size)
    exact b2.trans (this.to_below (fun i _ hi => by omega) b2.size)
/-- a row of what is wanted in another block is not disturbed by a cell of this one -/
theorem own_set5 {w2 : World} {g C : Nat} {v u : Value} {ks : List WV} (h : kQ.Own w2 C v ks) (hg : g < C) (i : Nat) : kQ.Own (w2.setCell ⟨g, i, none⟩ u) C v ks := h.keep (fun b hb => Below.heap_setCell _ _ _ _ (by rintro rfl; have := (h.lt hb).1; omega))
theorem new_set5 {w2 : World} {g : Nat} {u : Value} {t : WV} {Q : Nat → Prop} (h : WNew kQ w2 Q t) (hq : ∀ b, Q b → b ≠ g) (hg : ∃ cur, w2.heap[g]? = some (.cells cur 57 (0, 0))) (i : Nat) : WNew kQ (w2.setCell ⟨g, i, none⟩ u) Q t :=
  h.but (But.setCell (S := fun b => b = g) (p := ⟨g, i, none⟩) (But.refl _ _) (fun _ => rfl) u) hq (kind_noA (e := 57) (by decide) (fun b e => by subst e; exact hg))
def AtRel (W : World) (tag key : ByteArray) (attrs : List P3.At) (i : Nat) (s6 : Value) (wr : World) : Prop := ∃ (m : Nat) (A : Option Addr) (n c : Nat), m ≤ attrs.length ∧ s6 = .int .i64 ((i + 1 + m : Nat) : Int) ∧ Hid (ASt W wr tag key A n c (attrs.take m))
end Go.Proofs.Ytcdcgdblchchkaa.P14

/- What placketref11.Alike answers. No condition but those stated. -/
set_option linter.unusedVariables false
set_option linter.unusedSimpArgs false
namespace Go.Proofs.Ytcdcgdblchchkaa.P14
open Go.RowKit Kd P4 P5 P11 P12 P13

def PreW (l m : List PW) (k : Nat) : Prop := ∀ j (h : j < l.length) (h' : j < m.length), j < k → alW l[j] m[j] = true
theorem al_parts (t u : WV) : alW (er t) (er u) = (P3.sameA t.attrs u.attrs && alL (erL t.kids) (erL u.kids) && (t.kind == u.kind) && bq t.tag u.tag && bq t.key u.key && bq t.txt u.txt) := by rw [er_parts, er_parts, alW]
end Go.Proofs.Ytcdcgdblchchkaa.P14

/- What placketref11.ahead and attr answer. No condition but those stated. -/
set_option linter.unusedVariables false
set_option linter.unusedSimpArgs false
namespace Go.Proofs.Ytcdcgdblchchkaa.P13
open Go.RowKit Kd P4 P5 P11 P12

def AhRel (w : World) (l : List In) (f k : Nat) (s7 s8 s9 : Value) (wr : World) : Prop := ∃ (j : Nat) (dp : Int) (A' : Option Addr) (n' c' : Nat), f + j ≤ k ∧ s9 = .int .i64 ((f + j : Nat) : Int) ∧ s8 = .int .i64 dp ∧ s7 = .slice A' n' c' ∧ Hid (dp = (aheadK l f j).2) ∧ Hid (kX.Own wr w.heap.size (.slice A' n' c') (aheadK l f j).1) ∧ Hid (Below w.heap.size w wr)
/-- instructions of one's own -/
def Iv (w : World) (l : List In) (e : Ending) (w' : World) : Prop := ∃ (A : Option Addr) (n c : Nat), e = .returned (.slice A n c) ∧ kX.Own w' w.heap.size (.slice A n c) l ∧ Below w.heap.size w w'
/-! ### attr -/
theorem attrD_end {l : List In} {a : List UInt8} {k n : Nat} (h : k < l.length) (ht : tellsO l[k].op = false) : attrD l a (k + 1) n = if 8 ≤ n then 9 else if makesO l[k].op then 0 else 9 := by
  rw [attrD, List.getElem?_eq_getElem h]
  simp only [ht]
  rfl
theorem attrD_same {l : List In} {a : List UInt8} {k n : Nat} (h : k < l.length) (ht : tellsO l[k].op = true) (ha : l[k].a.toList = a) : attrD l a (k + 1) n = 9 := by
  rw [attrD, List.getElem?_eq_getElem h]
  simp only [ht, ha, if_true]
theorem attrD_next {l : List In} {a : List UInt8} {k n : Nat} (h : k < l.length) (ht : tellsO l[k].op = true) (ha : ¬ l[k].a.toList = a) : attrD l a (k + 1) n = attrD l a k (n + 1) := by
  rw [attrD, List.getElem?_eq_getElem h]
  simp only [ht, if_true]
  rw [if_neg ha]
def AtRel (w : World) (l : List In) (a : List UInt8) (k : Nat) (s5 s6 : Value) (wr : World) : Prop := ∃ (j m : Nat), j ≤ k ∧ m ≤ k ∧ s6 = .int .i64 ((j : Int) - 1) ∧ s5 = .int .i64 m ∧ Hid (m + j = k) ∧ Hid (attrD l a k 0 = attrD l a j m) ∧ Hid (Below w.heap.size w wr)
end Go.Proofs.Ytcdcgdblchchkaa.P13

/- What placketref11.wrong and Check answer. No condition but those stated. -/
set_option linter.unusedVariables false
set_option linter.unusedSimpArgs false
namespace Go.Proofs.Ytcdcgdblchchkaa.P13
open Go.RowKit Kd P4 P5 P11 P12

theorem ownX_of {w : World} {D : Nat} {A : Option Addr} {n c : Nat} {l : List In} (h : kX.Own w D (.slice A n c) l) : l.length = n ∧ n ≤ c ∧ c ≤ maxLen ∧ (A = none → c = 0) ∧ kX.Holds w w.heap.size A l := by
  obtain ⟨A', n', c', hv, e1, e2, e3, e4, e5⟩ := h.slice
  injection hv with h1 h2 h3
  subst h1; subst h2; subst h3
  exact ⟨e1, e2, e3, e4, e5⟩
theorem any_succ {α : Type} {l : List α} {p : α → Bool} {i : Nat} (h : i < l.length) : (l.take (i + 1)).any p = ((l.take i).any p || p l[i]) := by
  rw [List.take_add_one, List.getElem?_eq_getElem h, List.any_append]
  simp
theorem any_at {α : Type} {l : List α} {p : α → Bool} {i : Nat} (h : i < l.length) (hp : p l[i] = true) : l.any p = true := by
  rw [List.any_eq_true]
  exact ⟨_, List.getElem_mem h, hp⟩
def sevenB (y : In) : Bool := decide (y.op = 7)
def WgRel (w : World) (m : List In) (d : In) (s10 s11 : Value) (wr : World) : Prop := ∃ (i : Nat) (key : Bool), i ≤ m.length ∧ s11 = .int .i64 i ∧ s10 = .bool key ∧ Hid (key = (m.take i).any (keyB d)) ∧ Hid ((m.take i).any sevenB = false) ∧ Hid (Below w.heap.size w wr)
/-! ### Check -/
end Go.Proofs.Ytcdcgdblchchkaa.P13

/- Layer 13's example, and the walk of ValidTells, over the contract of the program's Check. No condition but those stated. -/
set_option linter.unusedVariables false
set_option linter.unusedSimpArgs false
namespace Go.Proofs.Ytcdcgdblchchkaa.P13
open Go.RowKit Kd P4 P5 P11 P12

/-- what the program's Check answers -/
def CheckC : Prop := ∀ (l : List In) (A : Option Addr) (n c : Nat) (w : World), kX.Holds w w.heap.size A l → l.length = n → n ≤ c → c ≤ maxLen → n ≤ 1000 → (∀ i ∈ l, i.a.size ≤ 300 ∧ i.b.size ≤ 300) →
  Calls Try.prog 17 #[.slice A n c] w fun e w' => e = .returned (errV (checkP l : Nat)) ∧ Below w.heap.size w w'
def oneX : List In := [⟨2, ⟨#[]⟩, ⟨#[]⟩⟩]
def twoX : List In := [⟨1, ⟨#[112]⟩, ⟨#[]⟩⟩, ⟨5, ⟨#[97]⟩, ⟨#[]⟩⟩, ⟨4, ⟨#[]⟩, ⟨#[]⟩⟩, ⟨2, ⟨#[]⟩, ⟨#[]⟩⟩]
theorem ez : (⟨#[]⟩ : ByteArray).toList = [] := by rw [ByteArray.toList_eq]
theorem one_code : checkP oneX = 8 := by
  have e : mayI ⟨2, ⟨#[]⟩, ⟨#[]⟩⟩ = true := by simp [mayI, ez]
  have f : firstW oneX 1 = 8 := by
    rw [firstW, firstW, if_pos rfl, wrongP]
    show wrongAt oneX 0 ⟨2, ⟨#[]⟩, ⟨#[]⟩⟩ = 8
    rw [wrongAt, if_neg (by rw [e]; decide), if_neg (by simp [tellsO]), if_pos rfl]
    rfl
  have h : firstW oneX oneX.length = 8 := f
  rw [checkP, if_neg (by decide), if_neg (by rw [h]; decide), h]
theorem two_code : checkP twoX = 0 := by
  have e0 : mayI ⟨1, ⟨#[112]⟩, ⟨#[]⟩⟩ = true := by simp only [mayI]; decide
  have e1 : mayI ⟨5, ⟨#[97]⟩, ⟨#[]⟩⟩ = true := by simp only [mayI]; decide
  have e2 : mayI ⟨4, ⟨#[]⟩, ⟨#[]⟩⟩ = true := by simp only [mayI, ez]; decide
  have e3 : mayI ⟨2, ⟨#[]⟩, ⟨#[]⟩⟩ = true := by simp [mayI, ez]
  have a0 : aheadP twoX 0 = [] := rfl
  have a2 : aheadP twoX 2 = [⟨5, ⟨#[97]⟩, ⟨#[]⟩⟩] := rfl
  have w0 : wrongP twoX 0 = 0 := by
    show wrongAt twoX 0 ⟨1, ⟨#[112]⟩, ⟨#[]⟩⟩ = 0
    rw [wrongAt, if_neg (by rw [e0]; decide), if_neg (by simp [tellsO]), if_neg (show ¬ ((1 : Int) = 2) by decide), a0, if_neg (by simp), if_neg (by simp), if_neg (by rintro ⟨_, h⟩; exact absurd h (by decide))]
  have w1 : wrongP twoX 1 = 0 := by
    show wrongAt twoX 1 ⟨5, ⟨#[97]⟩, ⟨#[]⟩⟩ = 0
    rw [wrongAt, if_neg (by rw [e1]; decide), if_pos (by simp [tellsO])]
    rfl
  have w2 : wrongP twoX 2 = 0 := by
    show wrongAt twoX 2 ⟨4, ⟨#[]⟩, ⟨#[]⟩⟩ = 0
    rw [wrongAt, if_neg (by rw [e2]; decide), if_neg (by simp [tellsO]), if_neg (show ¬ ((4 : Int) = 2) by decide), a2, if_neg (by simp), if_neg (by simp [makesO]), if_neg (by rintro ⟨h, _⟩; exact absurd h (by decide))]
  have w3 : wrongP twoX 3 = 0 := by
    show wrongAt twoX 3 ⟨2, ⟨#[]⟩, ⟨#[]⟩⟩ = 0
    rw [wrongAt, if_neg (by rw [e3]; decide), if_neg (by simp [tellsO]), if_pos rfl]
    rfl
  have f : firstW twoX 4 = 0 := by
    rw [firstW, firstW, firstW, firstW, firstW, w0, w1, w2, w3]
    rfl
  have h : firstW twoX twoX.length = 0 := f
  rw [checkP, if_neg (by decide), if_pos h]
  rfl
/-! ### ValidTells -/
end Go.Proofs.Ytcdcgdblchchkaa.P13

/- Layer 14's example, and the walks of WishTells and WishBack, over the contracts of the program's Of, Back, Count and Same. No condition but those stated. -/
set_option linter.unusedVariables false
set_option linter.unusedSimpArgs false
namespace Go.Proofs.Ytcdcgdblchchkaa.P14
open Go.RowKit Kd P4 P5 P11 P12 P13

/-- what is wanted as it lies in memory that is read -/
structure Wm (K : Kind Try.prog WV) (w : World) (A : Option Addr) (n c : Nat) (ts : List WV) : Prop where
  len : ts.length = n
  cap : n ≤ c
  cm : c ≤ maxLen
  nil : A = none → c = 0
  holds : K.Holds w w.heap.size A ts
  ok : ∀ t ∈ ts, WOk K w w.heap.size t
theorem Wm.on {K : Kind Try.prog WV} {w w' : World} {A : Option Addr} {n c : Nat} {ts : List WV} (h : Wm K w A n c ts) (hb : Below w.heap.size w w') : Wm K w' A n c ts := ⟨h.len, h.cap, h.cm, h.nil, h.holds.on hb, fun t ht => (h.ok t ht).on hb⟩
def OfV (w : World) (l : List In) (e : Ending) (w' : World) : Prop := ∃ (A : Option Addr) (n c : Nat) (ts : List WV), e = .returned (.tuple #[.slice A n c, errV (checkP l : Nat)]) ∧ erL ts = (if checkP l = 0 then wantP l else []) ∧ Wm kW w' A n c ts ∧ Below w.heap.size w w'
def WOfC : Prop := ∀ (l : List In) (A : Option Addr) (n c : Nat) (w : World), kX.Holds w w.heap.size A l → l.length = n → n ≤ c → c ≤ maxLen → n ≤ 1000 → (∀ i ∈ l, i.a.size ≤ 300 ∧ i.b.size ≤ 300) → Calls Try.prog 12 #[.slice A n c] w (OfV w l)
def BackV (w : World) (l : List In) (e : Ending) (w' : World) : Prop := ∃ (A : Option Addr) (n c : Nat), e = .returned (.slice A n c) ∧ l.length = n ∧ n ≤ c ∧ kX.Holds w' w'.heap.size A l ∧ Below w.heap.size w w'
def upX : List In := [⟨1, ⟨#[112]⟩, ⟨#[]⟩⟩, ⟨4, ⟨#[97]⟩, ⟨#[]⟩⟩, ⟨2, ⟨#[]⟩, ⟨#[]⟩⟩]
def upW : List PW := [.mk 1 ⟨#[112]⟩ ⟨#[]⟩ z0 [] [.mk 2 z0 z0 ⟨#[97]⟩ [] []]]
theorem up_code : checkP upX = 0 := by
  have e0 : mayI ⟨1, ⟨#[112]⟩, ⟨#[]⟩⟩ = true := by simp only [mayI]; decide
  have e1 : mayI ⟨4, ⟨#[97]⟩, ⟨#[]⟩⟩ = true := by simp only [mayI, ez]; decide
  have e2 : mayI ⟨2, ⟨#[]⟩, ⟨#[]⟩⟩ = true := by simp [mayI, ez]
  have a0 : aheadP upX 0 = [] := rfl
  have a1 : aheadP upX 1 = [] := rfl
  have w0 : wrongP upX 0 = 0 := by
    show wrongAt upX 0 ⟨1, ⟨#[112]⟩, ⟨#[]⟩⟩ = 0
    rw [wrongAt, if_neg (by rw [e0]; decide), if_neg (by simp [tellsO]), if_neg (show ¬ ((1 : Int) = 2) by decide), a0, if_neg (by simp), if_neg (by simp), if_neg (by rintro ⟨_, h⟩; exact absurd h (by decide))]
  have w1 : wrongP upX 1 = 0 := by
    show wrongAt upX 1 ⟨4, ⟨#[97]⟩, ⟨#[]⟩⟩ = 0
    rw [wrongAt, if_neg (by rw [e1]; decide), if_neg (by simp [tellsO]), if_neg (show ¬ ((4 : Int) = 2) by decide), a1, if_neg (by simp), if_neg (by simp), if_neg (by rintro ⟨h, _⟩; exact absurd h (by decide))]
  have w2 : wrongP upX 2 = 0 := by
    show wrongAt upX 2 ⟨2, ⟨#[]⟩, ⟨#[]⟩⟩ = 0
    rw [wrongAt, if_neg (by rw [e2]; decide), if_neg (by simp [tellsO]), if_pos rfl]
    rfl
  have f : firstW upX 3 = 0 := by
    rw [firstW, firstW, firstW, firstW, w0, w1, w2]
    rfl
  have h : firstW upX upX.length = 0 := f
  rw [checkP, if_neg (by decide), if_pos h]
  rfl
theorem up_want : wantP upX = upW := rfl
theorem erL_len (ts : List WV) : (erL ts).length = ts.length := by simp [erL_map]
end Go.Proofs.Ytcdcgdblchchkaa.P14

/- Whether a node may be made; a node that is made, or the error; a new document. -/
set_option linter.unusedVariables false
set_option linter.unusedSimpArgs false
namespace Go.Proofs.Ytcdcgdblchchkaa.P5
open Go.RowKit Kd P4
variable {B p : Nat} {x : Dx}

theorem empty_iff (s : ByteArray) : s.toList.isEmpty = true ↔ s.toList = [] := List.isEmpty_iff
/-! ### create -/
/-! ### New -/
end Go.Proofs.Ytcdcgdblchchkaa.P5
