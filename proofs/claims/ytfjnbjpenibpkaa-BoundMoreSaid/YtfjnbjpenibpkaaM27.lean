/- What placketref11.Alike answers. No condition but those stated. -/
import Derived.Deep.DeepCutAuto
import Derived.Test.YtfjnbjpenibpkaaM20
import Derived.Test.YtfjnbjpenibpkaaM22
import Derived.Test.YtfjnbjpenibpkaaM24
import Derived.Test.YtfjnbjpenibpkaaM25
import Derived.Test.YtfjnbjpenibpkaaM26
set_option linter.unusedVariables false
set_option linter.unusedSimpArgs false
set_option linter.unusedVariables false
set_option linter.unusedSimpArgs false
namespace Go.Proofs.Ytfjnbjpenibpkaa.P14
open Go.RowKit Kd P4 P5 P11 P12 P13

def PreW (l m : List PW) (k : Nat) : Prop := ∀ j (h : j < l.length) (h' : j < m.length), j < k → alW l[j] m[j] = true
theorem al_parts (t u : WV) : alW (er t) (er u) = (P3.sameA t.attrs u.attrs && alL (erL t.kids) (erL u.kids) && (t.kind == u.kind) && bq t.tag u.tag && bq t.key u.key && bq t.txt u.txt) := by rw [er_parts, er_parts, alW]
end Go.Proofs.Ytfjnbjpenibpkaa.P14

/- What placketref11.ahead and attr answer. No condition but those stated. -/
set_option linter.unusedVariables false
set_option linter.unusedSimpArgs false
namespace Go.Proofs.Ytfjnbjpenibpkaa.P13
open Go.RowKit Kd P4 P5 P11 P12

def AhRel (w : World) (l : List In) (f k : Nat) (s7 s8 s9 : Value) (wr : World) : Prop := ∃ (j : Nat) (dp : Int) (A' : Option Addr) (n' c' : Nat), f + j ≤ k ∧ s9 = .int .i64 ((f + j : Nat) : Int) ∧ s8 = .int .i64 dp ∧ s7 = .slice A' n' c' ∧ Hid (dp = (aheadK l f j).2) ∧ Hid (kX.Own wr w.heap.size (.slice A' n' c') (aheadK l f j).1) ∧ Hid (Below w.heap.size w wr)
/-- instructions of one's own -/
def Iv (w : World) (l : List In) (e : Ending) (w' : World) : Prop := ∃ (A : Option Addr) (n c : Nat), e = .returned (.slice A n c) ∧ kX.Own w' w.heap.size (.slice A n c) l ∧ Below w.heap.size w w'
/-! ### attr -/
theorem attrD_end {l : List In} {a : List UInt8} {k n : Nat} (h : k < l.length) (ht : tellsO l[k].op = false) : attrD l a (k + 1) n = if 8 ≤ n then 9 else if makesO l[k].op then 0 else 9 := by
  rw [attrD, List.getElem?_eq_getElem h]
  simp only [ht]
  rfl
theorem attrD_same {l : List In} {a : List UInt8} {k n : Nat} (h : k < l.length) (ht : tellsO l[k].op = true) (ha : l[k].a.toList = a) : attrD l a (k + 1) n = 9 := by
  rw [attrD, List.getElem?_eq_getElem h]
  simp only [ht, ha, if_true]
theorem attrD_next {l : List In} {a : List UInt8} {k n : Nat} (h : k < l.length) (ht : tellsO l[k].op = true) (ha : ¬ l[k].a.toList = a) : attrD l a (k + 1) n = attrD l a k (n + 1) := by
  rw [attrD, List.getElem?_eq_getElem h]
  simp only [ht, if_true]
  rw [if_neg ha]
def AtRel (w : World) (l : List In) (a : List UInt8) (k : Nat) (s5 s6 : Value) (wr : World) : Prop := ∃ (j m : Nat), j ≤ k ∧ m ≤ k ∧ s6 = .int .i64 ((j : Int) - 1) ∧ s5 = .int .i64 m ∧ Hid (m + j = k) ∧ Hid (attrD l a k 0 = attrD l a j m) ∧ Hid (Below w.heap.size w wr)
end Go.Proofs.Ytfjnbjpenibpkaa.P13

/- What placketref11.wrong and Check answer. No condition but those stated. -/
set_option linter.unusedVariables false
set_option linter.unusedSimpArgs false
namespace Go.Proofs.Ytfjnbjpenibpkaa.P13
open Go.RowKit Kd P4 P5 P11 P12

theorem ownX_of {w : World} {D : Nat} {A : Option Addr} {n c : Nat} {l : List In} (h : kX.Own w D (.slice A n c) l) : l.length = n ∧ n ≤ c ∧ c ≤ maxLen ∧ (A = none → c = 0) ∧ kX.Holds w w.heap.size A l := by
  obtain ⟨A', n', c', hv, e1, e2, e3, e4, e5⟩ := h.slice
  injection hv with h1 h2 h3
  subst h1; subst h2; subst h3
  exact ⟨e1, e2, e3, e4, e5⟩
theorem any_succ {α : Type} {l : List α} {p : α → Bool} {i : Nat} (h : i < l.length) : (l.take (i + 1)).any p = ((l.take i).any p || p l[i]) := by
  rw [List.take_add_one, List.getElem?_eq_getElem h, List.any_append]
  simp
theorem any_at {α : Type} {l : List α} {p : α → Bool} {i : Nat} (h : i < l.length) (hp : p l[i] = true) : l.any p = true := by
  rw [List.any_eq_true]
  exact ⟨_, List.getElem_mem h, hp⟩
def sevenB (y : In) : Bool := decide (y.op = 7)
def WgRel (w : World) (m : List In) (d : In) (s10 s11 : Value) (wr : World) : Prop := ∃ (i : Nat) (key : Bool), i ≤ m.length ∧ s11 = .int .i64 i ∧ s10 = .bool key ∧ Hid (key = (m.take i).any (keyB d)) ∧ Hid ((m.take i).any sevenB = false) ∧ Hid (Below w.heap.size w wr)
/-! ### Check -/
end Go.Proofs.Ytfjnbjpenibpkaa.P13

/- Layer 13's example, and the walk of ValidTells, over the contract of the program's Check. No condition but those stated. -/
set_option linter.unusedVariables false
set_option linter.unusedSimpArgs false
namespace Go.Proofs.Ytfjnbjpenibpkaa.P13
open Go.RowKit Kd P4 P5 P11 P12

/-- what the program's Check answers -/
def CheckC : Prop := ∀ (l : List In) (A : Option Addr) (n c : Nat) (w : World), kX.Holds w w.heap.size A l → l.length = n → n ≤ c → c ≤ maxLen → n ≤ 1000 → (∀ i ∈ l, i.a.size ≤ 300 ∧ i.b.size ≤ 300) →
  Calls Try.prog 12 #[.slice A n c] w fun e w' => e = .returned (errV (checkP l : Nat)) ∧ Below w.heap.size w w'
def oneX : List In := [⟨2, ⟨#[]⟩, ⟨#[]⟩⟩]
def twoX : List In := [⟨1, ⟨#[112]⟩, ⟨#[]⟩⟩, ⟨5, ⟨#[97]⟩, ⟨#[]⟩⟩, ⟨4, ⟨#[]⟩, ⟨#[]⟩⟩, ⟨2, ⟨#[]⟩, ⟨#[]⟩⟩]
theorem ez : (⟨#[]⟩ : ByteArray).toList = [] := by rw [ByteArray.toList_eq]
theorem one_code : checkP oneX = 8 := by
  have e : mayI ⟨2, ⟨#[]⟩, ⟨#[]⟩⟩ = true := by simp [mayI, ez]
  have f : firstW oneX 1 = 8 := by
    rw [firstW, firstW, if_pos rfl, wrongP]
    show wrongAt oneX 0 ⟨2, ⟨#[]⟩, ⟨#[]⟩⟩ = 8
    rw [wrongAt, if_neg (by rw [e]; decide), if_neg (by simp [tellsO]), if_pos rfl]
    rfl
  have h : firstW oneX oneX.length = 8 := f
  rw [checkP, if_neg (by decide), if_neg (by rw [h]; decide), h]
theorem two_code : checkP twoX = 0 := by
  have e0 : mayI ⟨1, ⟨#[112]⟩, ⟨#[]⟩⟩ = true := by simp only [mayI]; decide
  have e1 : mayI ⟨5, ⟨#[97]⟩, ⟨#[]⟩⟩ = true := by simp only [mayI]; decide
  have e2 : mayI ⟨4, ⟨#[]⟩, ⟨#[]⟩⟩ = true := by simp only [mayI, ez]; decide
  have e3 : mayI ⟨2, ⟨#[]⟩, ⟨#[]⟩⟩ = true := by simp [mayI, ez]
  have a0 : aheadP twoX 0 = [] := rfl
  have a2 : aheadP twoX 2 = [⟨5, ⟨#[97]⟩, ⟨#[]⟩⟩] := rfl
  have w0 : wrongP twoX 0 = 0 := by
    show wrongAt twoX 0 ⟨1, ⟨#[112]⟩, ⟨#[]⟩⟩ = 0
    rw [wrongAt, if_neg (by rw [e0]; decide), if_neg (by simp [tellsO]), if_neg (show ¬ ((1 : Int) = 2) by decide), a0, if_neg (by simp), if_neg (by simp), if_neg (by rintro ⟨_, h⟩; exact absurd h (by decide))]
  have w1 : wrongP twoX 1 = 0 := by
    show wrongAt twoX 1 ⟨5, ⟨#[97]⟩, ⟨#[]⟩⟩ = 0
    rw [wrongAt, if_neg (by rw [e1]; decide), if_pos (by simp [tellsO])]
    rfl
  have w2 : wrongP twoX 2 = 0 := by
    show wrongAt twoX 2 ⟨4, ⟨#[]⟩, ⟨#[]⟩⟩ = 0
    rw [wrongAt, if_neg (by rw [e2]; decide), if_neg (by simp [tellsO]), if_neg (show ¬ ((4 : Int) = 2) by decide), a2, if_neg (by simp), if_neg (by simp [makesO]), if_neg (by rintro ⟨h, _⟩; exact absurd h (by decide))]
  have w3 : wrongP twoX 3 = 0 := by
    show wrongAt twoX 3 ⟨2, ⟨#[]⟩, ⟨#[]⟩⟩ = 0
    rw [wrongAt, if_neg (by rw [e3]; decide), if_neg (by simp [tellsO]), if_pos rfl]
    rfl
  have f : firstW twoX 4 = 0 := by
    rw [firstW, firstW, firstW, firstW, firstW, w0, w1, w2, w3]
    rfl
  have h : firstW twoX twoX.length = 0 := f
  rw [checkP, if_neg (by decide), if_pos h]
  rfl
/-! ### ValidTells -/
end Go.Proofs.Ytfjnbjpenibpkaa.P13

/- Layer 14's example, and the walks of WishTells and WishBack, over the contracts of the program's Of, Back, Count and Same. No condition but those stated. -/
set_option linter.unusedVariables false
set_option linter.unusedSimpArgs false
namespace Go.Proofs.Ytfjnbjpenibpkaa.P14
open Go.RowKit Kd P4 P5 P11 P12 P13

/-- what is wanted as it lies in memory that is read -/
structure Wm (K : Kind Try.prog WV) (w : World) (A : Option Addr) (n c : Nat) (ts : List WV) : Prop where
  len : ts.length = n
  cap : n ≤ c
  cm : c ≤ maxLen
  nil : A = none → c = 0
  holds : K.Holds w w.heap.size A ts
  ok : ∀ t ∈ ts, WOk K w w.heap.size t
theorem Wm.on {K : Kind Try.prog WV} {w w' : World} {A : Option Addr} {n c : Nat} {ts : List WV} (h : Wm K w A n c ts) (hb : Below w.heap.size w w') : Wm K w' A n c ts := ⟨h.len, h.cap, h.cm, h.nil, h.holds.on hb, fun t ht => (h.ok t ht).on hb⟩
def OfV (w : World) (l : List In) (e : Ending) (w' : World) : Prop := ∃ (A : Option Addr) (n c : Nat) (ts : List WV), e = .returned (.tuple #[.slice A n c, errV (checkP l : Nat)]) ∧ erL ts = (if checkP l = 0 then wantP l else []) ∧ Wm kW w' A n c ts ∧ Below w.heap.size w w'
def WOfC : Prop := ∀ (l : List In) (A : Option Addr) (n c : Nat) (w : World), kX.Holds w w.heap.size A l → l.length = n → n ≤ c → c ≤ maxLen → n ≤ 1000 → (∀ i ∈ l, i.a.size ≤ 300 ∧ i.b.size ≤ 300) → Calls Try.prog 7 #[.slice A n c] w (OfV w l)
def BackV (w : World) (l : List In) (e : Ending) (w' : World) : Prop := ∃ (A : Option Addr) (n c : Nat), e = .returned (.slice A n c) ∧ l.length = n ∧ n ≤ c ∧ kX.Holds w' w'.heap.size A l ∧ Below w.heap.size w w'
def CountC : Prop := ∀ (ts : List WV) (A : Option Addr) (n c : Nat) (w : World), Wm kW w A n c ts → wtL (erL ts) ≤ 1000 → Calls Try.prog 14 #[.slice A n c] w fun e w' => e = .returned (.int .i64 (cntL (erL ts) : Nat)) ∧ Below w.heap.size w w'
def upX : List In := [⟨1, ⟨#[112]⟩, ⟨#[]⟩⟩, ⟨4, ⟨#[97]⟩, ⟨#[]⟩⟩, ⟨2, ⟨#[]⟩, ⟨#[]⟩⟩]
def upW : List PW := [.mk 1 ⟨#[112]⟩ ⟨#[]⟩ z0 [] [.mk 2 z0 z0 ⟨#[97]⟩ [] []]]
theorem up_code : checkP upX = 0 := by
  have e0 : mayI ⟨1, ⟨#[112]⟩, ⟨#[]⟩⟩ = true := by simp only [mayI]; decide
  have e1 : mayI ⟨4, ⟨#[97]⟩, ⟨#[]⟩⟩ = true := by simp only [mayI, ez]; decide
  have e2 : mayI ⟨2, ⟨#[]⟩, ⟨#[]⟩⟩ = true := by simp [mayI, ez]
  have a0 : aheadP upX 0 = [] := rfl
  have a1 : aheadP upX 1 = [] := rfl
  have w0 : wrongP upX 0 = 0 := by
    show wrongAt upX 0 ⟨1, ⟨#[112]⟩, ⟨#[]⟩⟩ = 0
    rw [wrongAt, if_neg (by rw [e0]; decide), if_neg (by simp [tellsO]), if_neg (show ¬ ((1 : Int) = 2) by decide), a0, if_neg (by simp), if_neg (by simp), if_neg (by rintro ⟨_, h⟩; exact absurd h (by decide))]
  have w1 : wrongP upX 1 = 0 := by
    show wrongAt upX 1 ⟨4, ⟨#[97]⟩, ⟨#[]⟩⟩ = 0
    rw [wrongAt, if_neg (by rw [e1]; decide), if_neg (by simp [tellsO]), if_neg (show ¬ ((4 : Int) = 2) by decide), a1, if_neg (by simp), if_neg (by simp), if_neg (by rintro ⟨h, _⟩; exact absurd h (by decide))]
  have w2 : wrongP upX 2 = 0 := by
    show wrongAt upX 2 ⟨2, ⟨#[]⟩, ⟨#[]⟩⟩ = 0
    rw [wrongAt, if_neg (by rw [e2]; decide), if_neg (by simp [tellsO]), if_pos rfl]
    rfl
  have f : firstW upX 3 = 0 := by
    rw [firstW, firstW, firstW, firstW, w0, w1, w2]
    rfl
  have h : firstW upX upX.length = 0 := f
  rw [checkP, if_neg (by decide), if_pos h]
  rfl
theorem up_want : wantP upX = upW := rfl
theorem erL_len (ts : List WV) : (erL ts).length = ts.length := by simp [erL_map]
end Go.Proofs.Ytfjnbjpenibpkaa.P14
