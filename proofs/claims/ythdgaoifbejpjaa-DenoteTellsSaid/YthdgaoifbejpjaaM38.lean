/- The document's example of layer 5, at the head of both laws: it answers true. -/
import Derived.Deep.MidRow
import Derived.Deep.DeepCutAuto
import Derived.Deep.CutBlock
import Derived.Test.YthdgaoifbejpjaaM10
import Derived.Test.YthdgaoifbejpjaaM15
import Derived.Test.YthdgaoifbejpjaaM23
import Derived.Test.YthdgaoifbejpjaaM36
import Derived.Test.YthdgaoifbejpjaaM37
set_option linter.unusedVariables false
set_option linter.unusedSimpArgs false
set_option linter.unusedVariables false
set_option linter.unusedSimpArgs false
namespace Go.Proofs.Ythdgaoifbejpjaa.P5
open Go.RowKit Kd P4

def rec1 : Rc := ⟨1, 2, 0, 0, ⟨#[112]⟩, ⟨#[]⟩, ⟨#[]⟩, []⟩
def rec2 : Rc := ⟨2, 2, 1, 0, ⟨#[]⟩, ⟨#[]⟩, ⟨#[]⟩, []⟩
def nodeR : Nd := newN 1 ⟨#[114, 111, 111, 116]⟩ ⟨#[]⟩ ⟨#[]⟩
def nodeP : Nd := newN 2 ⟨#[112]⟩ ⟨#[]⟩ ⟨#[]⟩
theorem list1 : (⟨#[112]⟩ : ByteArray).toList = [112] := by rw [ByteArray.toList_eq]
theorem list0 : (⟨#[]⟩ : ByteArray).toList = [] := by rw [ByteArray.toList_eq]
theorem listR : (⟨#[114, 111, 111, 116]⟩ : ByteArray).toList = [114, 111, 111, 116] := by rw [ByteArray.toList_eq]
theorem ex1 : applyD (newD 9) rec1 = (0, ⟨[nodeR, nodeP], 2, 9, 0⟩) := by
  have hm : mayMake ⟨#[112]⟩ ⟨#[]⟩ ⟨#[]⟩ = true := by
    unfold mayMake
    rw [list1, list0]
    decide
  unfold applyD
  rw [if_pos (show rec1.op = 1 from rfl)]
  unfold makeD
  rw [if_neg (by rintro (e | e); (exact e rfl); (rw [show mayMake rec1.tag rec1.txt rec1.key = true from hm] at e; cases e)), if_neg (by decide)]
  rfl
theorem ex2 : applyD ⟨[nodeR, nodeP], 2, 9, 0⟩ rec2 = (0, ⟨[withKids (insA 2 0) nodeR, withPar 1 nodeP], 2, 9, 0⟩) := by
  have hk : noKids nodeR.tag = false := by
    unfold noKids
    rw [show nodeR.tag.toList = [114, 111, 111, 116] from listR]
    decide
  have he : putErr [nodeR, nodeP] 2 1 0 = 0 := by
    unfold putErr
    rw [if_neg (by decide), if_neg (by decide), if_neg (by rw [show tagOf [nodeR, nodeP] 1 = nodeR.tag from rfl, hk]; decide), if_neg (by decide), if_neg (by decide)]
  unfold applyD
  rw [if_neg (by decide), if_pos (show rec2.op = 2 from rfl)]
  unfold putD
  rw [if_pos (show putErr [nodeR, nodeP] rec2.id rec2.par rec2.bef = 0 from he)]
  rfl
theorem argNil (w : World) : ArgA w none 0 0 [] := ⟨rfl, Nat.le_refl _, fun _ => rfl, by omega, fun a h => absurd h (by simp), Kind.Holds.nil _ _ _⟩
theorem size_nil : (⟨#[]⟩ : ByteArray).size ≤ maxLen := by unfold maxLen; decide
theorem size_one : (⟨#[112]⟩ : ByteArray).size ≤ maxLen := by unfold maxLen; decide
theorem errV0 : errV 0 = .nilIface := rfl
end Go.Proofs.Ythdgaoifbejpjaa.P5

/- What the laws of layer 5 are told of a node; what a change leaves of the last identity. -/
set_option linter.unusedVariables false
set_option linter.unusedSimpArgs false
namespace Go.Proofs.Ythdgaoifbejpjaa.P5
open Go.RowKit Kd P4
variable {B p : Nat} {x : Dx}

/-! ### What a change leaves of the last identity -/
theorem apply_n (d : D) (r : Rc) : d.n ≤ (applyD d r).2.n ∧ (applyD d r).2.n ≤ d.n + 1 := by
  unfold applyD
  split
  · unfold makeD
    split
    · exact ⟨Int.le_refl _, by show d.n ≤ d.n + 1; omega⟩
    · split
      · exact ⟨Int.le_refl _, by show d.n ≤ d.n + 1; omega⟩
      · show d.n ≤ d.n + 1 ∧ d.n + 1 ≤ d.n + 1
        omega
  · split
    · unfold putD; split <;> exact ⟨Int.le_refl _, by show d.n ≤ d.n + 1; omega⟩
    · split
      · unfold goneD
        split
        · exact ⟨Int.le_refl _, by show d.n ≤ d.n + 1; omega⟩
        · split <;> exact ⟨Int.le_refl _, by show d.n ≤ d.n + 1; omega⟩
      · split
        · unfold attrsD
          split
          · exact ⟨Int.le_refl _, by show d.n ≤ d.n + 1; omega⟩
          · split
            · exact ⟨Int.le_refl _, by show d.n ≤ d.n + 1; omega⟩
            · split <;> exact ⟨Int.le_refl _, by show d.n ≤ d.n + 1; omega⟩
        · split
          · unfold dataD
            split
            · exact ⟨Int.le_refl _, by show d.n ≤ d.n + 1; omega⟩
            · split
              · exact ⟨Int.le_refl _, by show d.n ≤ d.n + 1; omega⟩
              · split <;> exact ⟨Int.le_refl _, by show d.n ≤ d.n + 1; omega⟩
          · exact ⟨Int.le_refl _, by show d.n ≤ d.n + 1; omega⟩
theorem focus_n (d : D) (i : Int) : (focusD d i).2.n = d.n := by
  unfold focusD; split <;> rfl

/-! ### A node that has been told, in a block of its own -/
section
variable {w w' : World} {g : Nat} {nd : Nd} {A A2 : Option Addr} {n c n2 k2 : Nat}
end
theorem dep_len {l : List Nd} (h : Tr (fun y => hasL l y = true) (parOf l) (kidsOf l)) {y : Int} (hy : hasL l y = true) : depOf (parOf l) y ≤ l.length := by
  obtain ⟨k, hk⟩ := h.dep y
  have := h.dep_le (L := idsOf l) (fun y hy => has_ids.1 hy) hy hk
  rw [depOf_is hk]
  simpa [idsOf] using this
theorem one_of {l : List Int} (h : l.Nodup) {i j : Nat} (hi : i < l.length) (hj : j < l.length) (hij : i < j) : (l[i] == l[j]) = false := by
  rw [beq_eq_false_iff_ne]
  have := List.pairwise_iff_getElem.1 h i j hi hj hij
  exact this
end Go.Proofs.Ythdgaoifbejpjaa.P5

/- The reference's document as it lies in memory; where one stands, its children, its parent, all above it, whether it is inside another. -/
set_option linter.unusedVariables false
set_option linter.unusedSimpArgs false
namespace Go.Proofs.Ythdgaoifbejpjaa.P5
open Go.RowKit Kd P4

structure Rn where
  va : Sv
  vk : Sv
  nd : Nd
def Rn.rn (r : Rn) : RN := ⟨r.nd.id, r.nd.par, r.nd.tag, r.nd.txt, r.nd.key, r.va, r.vk, r.nd.note⟩
structure Rx where
  v : Value
  n : Int
  R : Nat
  foc : Int
  rs : List Rn
def Rx.l (y : Rx) : List Nd := y.rs.map (·.nd)
def Rx.d (y : Rx) : D := ⟨y.l, y.n, y.R, y.foc⟩
def rfoot (q : Nat) (y : Rx) (k : Nat) : Prop := k = q ∨ y.v.ownBlock = some k ∨ ∃ r ∈ y.rs, r.vk.val.ownBlock = some k
structure RNok (w : World) (B : Nat) (r : Rn) : Prop where
  att : AOk w r.va r.nd.attrs
  kids : kI.Own w B r.vk.val r.nd.kids
variable {B q : Nat} {y : Rx}
section
variable {w w' : World}
theorem rl_len (y : Rx) : y.l.length = y.rs.length := by simp [Rx.l]
theorem rplace {i : Int} (ha : Asc y.l) (hi : hasL y.l i = true) : ∃ k, ∃ hk : k < y.rs.length, y.rs[k].nd.id = i ∧ find y.l i = some y.rs[k].nd := by
  obtain ⟨z, hz, rfl⟩ := has_iff.1 hi
  obtain ⟨r, hr, rfl⟩ := List.mem_map.1 hz
  obtain ⟨k, hk, rfl⟩ := List.mem_iff_getElem.1 hr
  exact ⟨k, hk, rfl, ha.find hz⟩
end

/-! ### At -/
/-! ### Kids, Parent -/
theorem rtag_at {k : Nat} {i : Int} (ha : Asc y.l) (hk : k < y.rs.length) (hy : y.rs[k].nd.id = i) : tagOf y.l i = y.rs[k].nd.tag ∧ parOf y.l i = y.rs[k].nd.par ∧ kidsOf y.l i = y.rs[k].nd.kids := by
  have hm : y.rs[k].nd ∈ y.l := List.mem_map.2 ⟨y.rs[k], List.getElem_mem hk, rfl⟩
  have hf := ha.find hm
  rw [hy] at hf
  unfold tagOf parOf kidsOf
  rw [hf]
  exact ⟨rfl, rfl, rfl⟩
theorem no_at {l : List Nd} {i : Int} (h : hasL l i = false) : parOf l i = 0 ∧ kidsOf l i = [] := by
  have : find l i = none := by simpa [hasL] using h
  unfold parOf kidsOf
  rw [this]
  exact ⟨rfl, rfl⟩
/-! ### Up, Inside -/
theorem up_step {l : List Nd} {f : Nat} {x : Int} (h : hasL l x = true) : up (hasL l) (parOf l) (f + 1) x = x :: up (hasL l) (parOf l) f (parOf l x) := by rw [up, if_pos h]
theorem up_stop {l : List Nd} {f : Nat} {x : Int} (h : hasL l x = false) : up (hasL l) (parOf l) f x = [] := by
  cases f with
  | zero => rfl
  | succ f => rw [up, if_neg (by rw [h]; simp)]
def GotInts (w : World) (l : List Int) (e : Ending) (w' : World) : Prop := ∃ A n c, e = .returned (.slice A n c) ∧ kI.Own w' w.heap.size (.slice A n c) l ∧ Below w.heap.size w w'
theorem above_len {l : List Nd} : ∀ (f : Nat) (x : Int), (up (hasL l) (parOf l) f x).length ≤ f
  | 0, _ => by simp [up]
  | f + 1, x => by
    rw [up]
    split
    · simp only [List.length_cons]; have := above_len (l := l) f (parOf l x); omega
    · simp
end Go.Proofs.Ythdgaoifbejpjaa.P5

/- The reference: all below one; a node that is set anew. -/
set_option linter.unusedVariables false
set_option linter.unusedSimpArgs false
namespace Go.Proofs.Ythdgaoifbejpjaa.P5
open Go.RowKit Kd P4
variable {B q : Nat} {y : Rx}

/-! ### All -/
theorem own_lit (w : World) (i : Int) : kI.Own (w.alloc (.cells #[.int .i64 i] 3)) w.heap.size (.slice (some ⟨w.heap.size, 0, none⟩) 1 1) [i] :=
  Kind.own_mk (K := kI) (cur := #[.int .i64 i]) rfl (Nat.le_refl _) (heap_alloc_new w _) (Nat.le_refl _) (by unfold maxLen; omega) rfl rfl
/-! ### set -/
theorem Kind.Own.setE {P : Program} {α : Type} {K : Kind P α} {w : World} {g n c : Nat} {l : List α} (h : K.Own w B (.slice (some ⟨g, 0, none⟩) n c) l) {k : Nat} (hk : k < l.length) (a : α) :
    K.Own (w.setCells g (k * K.size) (K.cs a)) B (.slice (some ⟨g, 0, none⟩) n c) (l.set k a) := by
  rcases h.form with ⟨hv, _⟩ | ⟨g', c', cur, hv, _, hBg, hlt, hh, hnc, hcm, hcs, ht⟩
  · cases hv
  injection hv with e1 e2 e3
  injection e1 with e1
  injection e1 with e1
  subst e1; subst e2; subst e3
  obtain ⟨cur', h1, h2, h3⟩ := heap_setCells g (K.cs a) (k * K.size) w cur _ _ hh
  have hmul : l.length * K.size ≤ c * K.size := Nat.mul_le_mul_right _ hnc
  have hkm : (k + 1) * K.size ≤ l.length * K.size := Nat.mul_le_mul_right _ hk
  have hkm2 : (k + 1) * K.size = k * K.size + K.size := by rw [Nat.add_mul, Nat.one_mul]
  refine Kind.own_mk (by simp) hBg h1 hnc hcm (by rw [h2]; exact hcs) ?_
  apply List.ext_getElem?
  intro i
  have hpos := K.hpos
  rw [List.getElem?_take]
  by_cases hi : i < l.length * K.size
  · rw [if_pos hi, Array.getElem?_toList, h3 i (by omega), K.len]
    have hdm : i / K.size * K.size + i % K.size = i := by rw [Nat.mul_comm]; exact Nat.div_add_mod i K.size
    have hmod : i % K.size < K.size := Nat.mod_lt _ hpos
    have hdiv : i / K.size < l.length := by rw [Nat.div_lt_iff_lt_mul hpos]; exact hi
    have hat := K.cells_at (l.set k a) (i / K.size) (by simpa using hdiv) (i % K.size) hmod
    rw [hdm] at hat
    rw [hat, List.getElem_set]
    by_cases hik : k = i / K.size
    · subst hik
      rw [if_pos rfl, if_pos ⟨by omega, by omega⟩]
      congr 1
      omega
    · rw [if_neg hik]
      have hat2 := K.cells_at l (i / K.size) hdiv (i % K.size) hmod
      rw [hdm] at hat2
      rw [← hat2, ← ht, List.getElem?_take, if_pos hi, if_neg ?_, Array.getElem?_toList]
      rintro ⟨h5, h6⟩
      apply hik
      have h7 : k ≤ i / K.size := by rw [Nat.le_div_iff_mul_le hpos]; exact h5
      have h8 : i / K.size < k + 1 := by rw [Nat.div_lt_iff_lt_mul hpos]; omega
      omega
  · rw [if_neg hi, List.getElem?_eq_none]
    rw [Kind.cells_len, List.length_set]
    omega
end Go.Proofs.Ythdgaoifbejpjaa.P5

/- The reference: a node that leaves. -/
set_option linter.unusedVariables false
set_option linter.unusedSimpArgs false
namespace Go.Proofs.Ythdgaoifbejpjaa.P5
open Go.RowKit Kd P4
variable {B q : Nat} {y : Rx}

/-- a node of the list, as its cells lie -/
structure Lies (w : World) (b o : Nat) (nd : Nd) (A : Option Addr) (n c : Nat) (A2 : Option Addr) (n2 k2 : Nat) : Prop where
  c0 : w.cell? ⟨b, o, none⟩ = some (.int .i64 nd.id)
  c1 : w.cell? ⟨b, o + 1, none⟩ = some (.int .i64 nd.par)
  c2 : w.cell? ⟨b, o + 2, none⟩ = some (.string nd.tag)
  c3 : w.cell? ⟨b, o + 3, none⟩ = some (.string nd.txt)
  c4 : w.cell? ⟨b, o + 4, none⟩ = some (.string nd.key)
  c5 : w.cell? ⟨b, o + 5, none⟩ = some (.slice A n c)
  c6 : w.cell? ⟨b, o + 6, none⟩ = some (.slice A2 n2 k2)
  c7 : w.cell? ⟨b, o + 7, none⟩ = some (.int .i64 nd.note)
theorem less_take {i : Int} {l : List Int} {j : Nat} (hj : j < l.length) : less i (l.take (j + 1)) = if l[j] = i then less i (l.take j) else less i (l.take j) ++ [l[j]] := by
  unfold less
  rw [List.take_succ_eq_append_getElem hj, List.filter_append]
  by_cases e : l[j] = i
  · rw [if_pos e]; simp [e]
  · rw [if_neg e]; simp [e]
theorem two_set {l : List Nd} (h : Asc l) {k k2 : Nat} (hk : k < l.length) (hk2 : k2 < l.length) (hne : k2 ≠ k) (f g : Nd → Nd) (hf : ∀ x, (f x).id = x.id) :
    (l.set k2 (f l[k2])).set k (g l[k]) = upd (upd l l[k2].id f) l[k].id g ∧ Asc (l.set k2 (f l[k2])) := by
  have e1 := h.set_upd hk2 f
  have e2 : (l.set k2 (f l[k2]))[k]'(by simpa using hk) = l[k] := List.getElem_set_ne hne _
  have hA : Asc (l.set k2 (f l[k2])) := asc_of_ids h (by
    unfold idsOf
    rw [List.map_set, hf]
    apply List.ext_getElem
    · simp
    · intro j h1 h2
      rw [List.getElem_set]
      by_cases e : k2 = j
      · subst e; rw [if_pos rfl, List.getElem_map]
      · rw [if_neg e])
  have := hA.set_upd (k := k) (by simpa using hk) g
  rw [e2] at this
  exact ⟨by rw [this, e1], hA⟩
end Go.Proofs.Ythdgaoifbejpjaa.P5

/- The reference: two nodes that are the same, are told so. -/
set_option linter.unusedVariables false
set_option linter.unusedSimpArgs false
namespace Go.Proofs.Ythdgaoifbejpjaa.P5
open Go.RowKit Kd P4

theorem sameA_refl : ∀ l : List P3.At, P3.sameA l l = true
  | [] => rfl
  | a :: l => by rw [P3.sameA, P3.atB_refl, sameA_refl l]; rfl
end Go.Proofs.Ythdgaoifbejpjaa.P5

/- Layer 16's example, the law's wants, and the walk of MatchTells, over the contract of the program's match. No condition but those stated. -/
set_option linter.unusedVariables false
set_option linter.unusedSimpArgs false
namespace Go.Proofs.Ythdgaoifbejpjaa.P16
open Go.RowKit Kd P4 P5 P11 P12 P13 P14

/-- three rows of integers that are read -/
structure R3 (w : World) (s : Ms) (n : Nat) (A1 : Option Addr) (n1 c1 : Nat) (A2 : Option Addr) (n2 c2 : Nat) (A3 : Option Addr) (n3 c3 : Nat) : Prop where
  l1 : s.take.length = n1
  l2 : s.kept.length = n2
  l3 : (idxM s.left n).length = n3
  h1 : kI.Holds w w.heap.size A1 s.take
  h2 : kI.Holds w w.heap.size A2 s.kept
  h3 : kI.Holds w w.heap.size A3 (idxM s.left n)
  k1 : n1 ≤ c1
  k2 : n2 ≤ c2
  k3 : n3 ≤ c3
  z1 : A1 = none → c1 = 0
  z2 : A2 = none → c2 = 0
  z3 : A3 = none → c3 = 0
theorem R3.on {w w' : World} {s : Ms} {n : Nat} {A1 A2 A3 : Option Addr} {n1 c1 n2 c2 n3 c3 : Nat} (h : R3 w s n A1 n1 c1 A2 n2 c2 A3 n3 c3) (hb : Below w.heap.size w w') : R3 w' s n A1 n1 c1 A2 n2 c2 A3 n3 c3 := ⟨h.l1, h.l2, h.l3, h.h1.on hb, h.h2.on hb, h.h3.on hb, h.k1, h.k2, h.k3, h.z1, h.z2, h.z3⟩
def MOfV (w : World) (s : Ms) (n : Nat) (e : Ending) (w' : World) : Prop := ∃ (A1 : Option Addr) (n1 c1 : Nat) (A2 : Option Addr) (n2 c2 : Nat) (A3 : Option Addr) (n3 c3 : Nat), e = .returned (.agg #[.slice A1 n1 c1, .slice A2 n2 c2, .slice A3 n3 c3]) ∧ R3 w' s n A1 n1 c1 A2 n2 c2 A3 n3 c3 ∧ Below w.heap.size w w'
def MatchC : Prop := ∀ (old : List Ol) (A : Option Addr) (n c : Nat) (ts : List WV) (A' : Option Addr) (n' c' : Nat) (w : World), kO.Holds w w.heap.size A old → (∀ o ∈ old, o.tag.size ≤ maxLen ∧ o.key.size ≤ maxLen) → old.length = n → n ≤ c → c ≤ maxLen → n ≤ 1000 → Wm kW w A' n' c' ts → (∀ t ∈ erL ts, WfW t) → wtL (erL ts) ≤ 1000 →
  Calls Try.prog 18 #[.slice A n c, .slice A' n' c'] w (MOfV w (foldM old (erL ts)) old.length)
/-! ### The example -/
def upO : List Ol := [⟨⟨#[112]⟩, ⟨#[]⟩⟩, ⟨⟨#[]⟩, ⟨#[]⟩⟩]
def upT : List WV := [.mk 2 ⟨#[]⟩ ⟨#[]⟩ ⟨#[]⟩ ⟨none, 0, 0⟩ [] ⟨none, 0, 0⟩ [], .mk 1 ⟨#[112]⟩ ⟨#[]⟩ ⟨#[]⟩ ⟨none, 0, 0⟩ [] ⟨none, 0, 0⟩ []]
theorem bq_data (a b : ByteArray) : bq a b = (a.data.toList == b.data.toList) := by rw [bq, ByteArray.toList_eq, ByteArray.toList_eq]
theorem takes_data (w : PW) (o : Ol) (f : Bool) : takesW w o f = (if w.kind = 1 then (o.tag.data.toList == w.tag.data.toList) && (o.key.data.toList == w.key.data.toList) && (f || !w.key.data.toList.isEmpty) else if w.kind = 2 then f && o.tag.data.toList.isEmpty else if w.kind = 3 then f else false) := by
  simp only [takesW, bq_data, ByteArray.toList_eq]
theorem up_fold : foldM upO (erL upT) = ⟨[false, true], [-1, 0], []⟩ := by
  have e : erL upT = [.mk 2 ⟨#[]⟩ ⟨#[]⟩ ⟨#[]⟩ [] [], .mk 1 ⟨#[112]⟩ ⟨#[]⟩ ⟨#[]⟩ [] []] := by simp [upT, erL, er]
  rw [e]
  simp only [foldM, List.foldl, stepM, scanM, upO, takes_data, List.length_cons, List.length_nil, PW.kind, PW.tag, PW.key]
  rfl
theorem up_wf : ∀ t ∈ erL upT, WfW t := by
  have e : erL upT = [.mk 2 z0 z0 ⟨#[]⟩ [] [], .mk 1 ⟨#[112]⟩ ⟨#[]⟩ z0 [] []] := by simp [upT, erL, er, show z0 = (⟨#[]⟩ : ByteArray) from rfl]
  rw [e]
  intro t ht
  simp only [List.mem_cons, List.not_mem_nil, or_false] at ht
  rcases ht with rfl | rfl
  · exact .tx (by simp only [mayI, ez, show z0 = ⟨#[]⟩ from rfl]; decide)
  · exact .el (by simp only [mayI]; decide) (by intro a ha; cases ha) (by intro k hk; cases hk)
end Go.Proofs.Ythdgaoifbejpjaa.P16

/- The contract of the program's match. No condition but those stated. -/
set_option linter.unusedVariables false
set_option linter.unusedSimpArgs false
namespace Go.Proofs.Ythdgaoifbejpjaa.P16
open Go.RowKit Kd P4 P5 P11 P12 P13 P14 Mv

set_option maxRecDepth 100000
/-- ahead of a round of Of -/
structure OfRel (w w2 : World) (B p g h m t0 : Nat) (A : Option Addr) (n c : Nat) (old : List Ol) (ws : List PW) (n' j : Nat) (A3 : Option Addr) (n3 c3 : Nat) (wr : World) : Prop where
  lf : LfE wr B p g h m A n c old (foldM old (ws.take j)).left
  tk : kI.Own wr w2.heap.size (.slice (some ⟨t0, 0, none⟩) n' n') ((foldM old (ws.take j)).take ++ List.replicate (n' - j) 0)
  kp : kI.Own wr w2.heap.size (.slice A3 n3 c3) (foldM old (ws.take j)).kept
  ap : (Value.slice A3 n3 c3).ownBlock ≠ some t0
  res : wr.heap[w.heap.size]? = some (.cells #[.slice none 0 0, .slice none 0 0, .slice none 0 0] 51 (0, 0))
  hb : Below w.heap.size w wr
theorem LfE.below {w w' : World} {C B p g h m : Nat} {A : Option Addr} {n c : Nat} {old : List Ol} {left : List Bool} (x : LfE w B p g h m A n c old left) (hb : Below C w w') (h1 : B ≤ C) (h2 : p < C) (h3 : g < C) (h4 : h < C) (h5 : m < C) : LfE w' B p g h m A n c old left := by
  obtain ⟨F, s, f, nl, x⟩ := x
  exact ⟨F, s, f, nl, x.below hb h1 h2 h3 h4 h5⟩
theorem set_at {l : List Int} {j r : Nat} (h : l.length = j) (v : Int) : (l ++ List.replicate (r + 1) 0).set j v = l ++ [v] ++ List.replicate r 0 := by
  subst h
  rw [List.set_append_right _ _ (Nat.le_refl _), Nat.sub_self, List.replicate_succ, List.set_cons_zero, List.append_assoc]
  rfl
theorem ownI_is {w : World} {D : Nat} {A : Option Addr} {n c : Nat} {l : List Int} (h : kI.Own w D (.slice A n c) l) : l.length = n ∧ n ≤ c ∧ (A = none → c = 0) ∧ kI.Holds w w.heap.size A l := by
  obtain ⟨A', n', c', hv, e1, e2, e3, e4, e5⟩ := h.slice
  injection hv with h1 h2 h3
  subst h1; subst h2; subst h3
  exact ⟨e1, e2, e4, e5⟩
theorem three_set (w : World) (b : Nat) (u0 u1 u2 : Value) : But (fun i => i = b) w (((w.setCell ⟨b, 0, none⟩ u0).setCell ⟨b, 1, none⟩ u1).setCell ⟨b, 2, none⟩ u2) :=
  But.setCell (S := fun i => i = b) (p := ⟨b, 2, none⟩) (But.setCell (S := fun i => i = b) (p := ⟨b, 1, none⟩) (But.setCell (S := fun i => i = b) (p := ⟨b, 0, none⟩) (But.refl _ _) (fun _ => rfl) _) (fun _ => rfl) _) (fun _ => rfl) _
/-- wants in a slice, whatever its room -/
structure Wn (w : World) (A : Option Addr) (n c : Nat) (ts : List WV) : Prop where
  len : ts.length = n
  cap : n ≤ c
  nil : A = none → c = 0
  holds : kW.Holds w w.heap.size A ts
  ok : ∀ t ∈ ts, WOk kW w w.heap.size t
theorem Wn.on {w w' : World} {A : Option Addr} {n c : Nat} {ts : List WV} (h : Wn w A n c ts) (hb : Below w.heap.size w w') : Wn w' A n c ts := ⟨h.len, h.cap, h.nil, h.holds.on hb, fun t ht => (h.ok t ht).on hb⟩
theorem wn_of {w : World} {A : Option Addr} {n c : Nat} {ts : List WV} (h : Wm kW w A n c ts) : Wn w A n c ts := ⟨h.len, h.cap, h.nil, h.holds, h.ok⟩
set_option maxHeartbeats 16000000 in
theorem match_n (old : List Ol) (A : Option Addr) (n c : Nat) (ts : List WV) (A' : Option Addr) (n' c' : Nat) (w : World) (hh : kO.Holds w w.heap.size A old) (hsz : ∀ o ∈ old, o.tag.size ≤ maxLen ∧ o.key.size ≤ maxLen) (hn : old.length = n) (hs : n ≤ 1000) (hm : Wn w A' n' c' ts) (hwf : ∀ t ∈ erL ts, WfW t) (hwt : wtL (erL ts) ≤ 1000) :
    Calls Try.prog 18 #[.slice A n c, .slice A' n' c'] w (MOfV w (foldM old (erL ts)) old.length) := by
  have B0 : Hid (Below w.heap.size w (w.alloc (.cells #[.slice none 0 0, .slice none 0 0, .slice none 0 0] 51))) := Lib.hid ((Below.refl _ _).alloc (Nat.le_refl _) _)
  have R0 : Hid ((w.alloc (.cells #[.slice none 0 0, .slice none 0 0, .slice none 0 0] 51)).heap[w.heap.size]? = some (.cells #[.slice none 0 0, .slice none 0 0, .slice none 0 0] 51 (0, 0))) := Lib.hid (heap_alloc_new w _)
  have HSZ := Lib.hid hsz
  have HN := Lib.hid hn
  have HH := Lib.hid hh
  have HM := Lib.hid hm
  have HWF := Lib.hid hwf
  have hlen := hm.len
  have HL := Lib.hid hlen
  have EL : Hid ((erL ts).length = n') := Lib.hid (by rw [erL_map]; simpa using hlen)
  have hn1 : n' ≤ 1000 := by have := wtL_len (erL ts); have := EL.out; omega
  have hmk := make_intsW n' (by omega)
  clear hh hsz hn hm hwf hlen hwt
  go_enter Try.func18, Try.ntmps18
  go_upto_region 1 with fail
  generalize w.alloc (.cells #[.slice none 0 0, .slice none 0 0, .slice none 0 0] 51) = w1 at B0 R0 ⊢
  have CN := Lib.hid (newLeft_any old A n c w1 (HH.out.on B0.out) HSZ.out HN.out hs)
  go_wp2_with fail
  refine CN.out.mono ?_
  rintro e w2 ⟨p, g, h, m, s, f, nl, rfl, x2, b2⟩
  have X2 := Lib.hid x2
  have B2 := Lib.hid (B0.out.trans (b2.mono B0.out.size))
  have R2 := Lib.hid ((b2.block _ (heap_lt R0.out)).trans R0.out)
  have PR : Hid (w.heap.size < w1.heap.size ∧ w1.heap.size ≤ w2.heap.size ∧ w1.heap.size ≤ p ∧ w1.heap.size ≤ g ∧ w1.heap.size ≤ m) := Lib.hid ⟨heap_lt R0.out, b2.size, x2.Bp, x2.Bg, x2.Bm⟩
  have LT : Hid (p < w2.heap.size ∧ g < w2.heap.size ∧ h < w2.heap.size ∧ m < w2.heap.size) := Lib.hid ⟨x2.plt, (x2.own.lt rfl).2, (x2.nx.lt rfl).2, x2.map.lt⟩
  clear x2 b2 CN B0 R0
  go_upto_region 3 with fail
  have XM := Lib.hid (X2.out.alloc (.cells (madeCells #[.int .i64 0] n') 3))
  have OM : Hid (kI.Own (w2.alloc (.cells (madeCells #[.int .i64 0] n') 3)) w2.heap.size (.slice (some ⟨w2.heap.size, 0, none⟩) n' n') (List.replicate n' 0)) := Lib.hid (Kind.own_mk (by simp) (Nat.le_refl _) (heap_alloc_new w2 _) (Nat.le_refl _) (by unfold maxLen; omega) (by rw [size_madeCells]; exact (Nat.mul_one n').symm) (by rw [toList_madeCells_one, List.take_of_length_le (by simp [kI]), cells_repI]))
  have ST : Hid (OfRel w w2 w1.heap.size p g h m w2.heap.size A n c old (erL ts) n' 0 none 0 0 (w2.alloc (.cells (madeCells #[.int .i64 0] n') 3))) := Lib.hid {
    lf := ⟨0, s, f, nl, by
      have e : (foldM old ((erL ts).take 0)).left = List.replicate n true := by rw [List.take_zero]; show List.replicate old.length true = _; rw [HN.out]
      rw [e]
      exact XM.out⟩
    tk := by
      have e : (foldM old ((erL ts).take 0)).take = [] := by rw [List.take_zero]; rfl
      rw [e, Nat.sub_zero, List.nil_append]
      exact OM.out
    kp := by
      have e : (foldM old ((erL ts).take 0)).kept = [] := by rw [List.take_zero]; rfl
      rw [e]
      exact Kind.Own.nil kI _ _
    ap := fun e => by cases e
    res := heap_up R2.out
    hb := B2.out.alloc B2.out.size _ }
  clear XM OM X2 B2 R2 hmk
  generalize ht0 : w2.heap.size = t0 at ST ⊢
  go_wp2_with fail
  go_loopw [7, 17] (fun s7 s17 wr => ∃ (j : Nat) (A3 : Option Addr) (n3 c3 : Nat), j ≤ n' ∧ s17 = .int .i64 j ∧ s7 = .slice A3 n3 c3 ∧ Hid (OfRel w w2 w1.heap.size p g h m t0 A n c old (erL ts) n' j A3 n3 c3 wr)) (fun _ s17 _ => n' - (intOf s17).toNat)
  case atStart => exact ⟨0, none, 0, 0, Nat.zero_le _, rfl, rfl, ST⟩
  case round =>
    obtain ⟨j, A3, n3, c3, hj, rfl, rfl, HR⟩ := hrel
    clear ST
    have hlens := foldM_lens old ((erL ts).take j)
    have hleft := foldM_left old ((erL ts).take j)
    rw [List.length_take, EL.out, Nat.min_eq_left hj] at hlens
    by_cases hjn : j < n'
    · have hjl : j < ts.length := by have := HL.out; omega
      have hje : j < (erL ts).length := by have := EL.out; omega
      have SN := Lib.hid (foldM_snoc (old := old) hje)
      rw [erL_at hjl hje] at SN
      have WT : Hid (WfW (er ts[j])) := Lib.hid (by rw [← erL_at hjl hje]; exact HWF.out _ (List.getElem_mem hje))
      obtain ⟨b', o', rfl, hb', y0', y1', y2', y3', y4', y5'⟩ := cell_of_w HM.out.holds hjl
      have y0 := (HR.out.hb.cell hb').trans y0'
      have y1 := (HR.out.hb.cell hb').trans y1'
      have y2 := (HR.out.hb.cell hb').trans y2'
      have y3 := (HR.out.hb.cell hb').trans y3'
      have y4 := (HR.out.hb.cell hb').trans y4'
      have y5 := (HR.out.hb.cell hb').trans y5'
      have HKD : Hid ((er ts[j]).kind = ts[j].kind) := Lib.hid (by rw [er_parts]; rfl)
      clear y0' y1' y2' y3' y4' y5' hje
      generalize ts[j] = t at y0 y1 y2 y3 y4 y5 SN WT HKD
      clear hjl
      generalize hst : foldM old ((erL ts).take j) = st at SN hlens hleft
      have TK := HR.out.tk
      have KP := HR.out.kp
      have LF := HR.out.lf
      rw [hst] at TK KP LF
      obtain ⟨left, take, kept⟩ := st
      simp only at TK KP LF hlens hleft
      have HTL : Hid (take.length = j) := Lib.hid hlens.1
      have HKL : Hid (kept.length ≤ 1000000) := Lib.hid (by
        have h1 : j * old.length ≤ 1000 * 1000 := Nat.mul_le_mul (by omega) (by have := HN.out; omega)
        omega)
      have HLL : Hid (left.length = n) := Lib.hid (by have := HN.out; omega)
      clear hst hlens hleft
      go_upto_region 7 with fail
      have BW : Hid (Below w.heap.size w (wr.alloc (.cells #[.int .i64 t.kind, .string t.tag, .string t.key, .string t.txt, .slice t.sa.A t.sa.n t.sa.c, .slice t.sk.A t.sk.n t.sk.c] 41))) := Lib.hid (HR.out.hb.alloc HR.out.hb.size _)
      have X9 : Hid ((wr.alloc (.cells #[.int .i64 t.kind, .string t.tag, .string t.key, .string t.txt, .slice t.sa.A t.sa.n t.sa.c, .slice t.sk.A t.sk.n t.sk.c] 41)).heap[wr.heap.size]? = some (.cells #[.int .i64 t.kind, .string t.tag, .string t.key, .string t.txt, .slice t.sa.A t.sa.n t.sa.c, .slice t.sk.A t.sk.n t.sk.c] 41 (0, 0))) := Lib.hid (heap_alloc_new wr _)
      obtain ⟨F, s', f', nl', lf⟩ := LF
      have XW := Lib.hid (lf.alloc (.cells #[.int .i64 t.kind, .string t.tag, .string t.key, .string t.txt, .slice t.sa.A t.sa.n t.sa.c, .slice t.sk.A t.sk.n t.sk.c] 41))
      have TKW := Lib.hid (TK.alloc (.cells #[.int .i64 t.kind, .string t.tag, .string t.key, .string t.txt, .slice t.sa.A t.sa.n t.sa.c, .slice t.sk.A t.sk.n t.sk.c] 41))
      have KPW := Lib.hid (KP.alloc (.cells #[.int .i64 t.kind, .string t.tag, .string t.key, .string t.txt, .slice t.sa.A t.sa.n t.sa.c, .slice t.sk.A t.sk.n t.sk.c] 41))
      have RW : Hid ((wr.alloc (.cells #[.int .i64 t.kind, .string t.tag, .string t.key, .string t.txt, .slice t.sa.A t.sa.n t.sa.c, .slice t.sk.A t.sk.n t.sk.c] 41)).heap[w.heap.size]? = some (.cells #[.slice none 0 0, .slice none 0 0, .slice none 0 0] 51 (0, 0))) := Lib.hid (heap_up HR.out.res)
      have AP := Lib.hid HR.out.ap
      have B9 : Hid (t0 < wr.heap.size ∧ p < wr.heap.size ∧ g < wr.heap.size ∧ m < wr.heap.size ∧ w2.heap.size ≤ t0) := Lib.hid ⟨(TK.lt (g := t0) rfl).2, lf.plt, (lf.own.lt (g := g) rfl).2, lf.map.lt, (TK.lt (g := t0) rfl).1⟩
      clear TK KP lf HR y0 y1 y2 y3 y4 y5
      generalize wr.heap.size = b9 at X9 B9 ⊢
      generalize (wr.alloc (.cells #[.int .i64 t.kind, .string t.tag, .string t.key, .string t.txt, .slice t.sa.A t.sa.n t.sa.c, .slice t.sk.A t.sk.n t.sk.c] 41)) = W at BW X9 XW TKW KPW RW ⊢
      have z0 : W.cell? ⟨b9, 0, none⟩ = some (.int .i64 t.kind) := cell_of_row W b9 0 _ _ (0, 0) X9.out
      have z1 : W.cell? ⟨b9, 1, none⟩ = some (.string t.tag) := cell_of_row W b9 1 _ _ (0, 0) X9.out
      have z2 : W.cell? ⟨b9, 2, none⟩ = some (.string t.key) := cell_of_row W b9 2 _ _ (0, 0) X9.out
      have z3 : W.cell? ⟨b9, 3, none⟩ = some (.string t.txt) := cell_of_row W b9 3 _ _ (0, 0) X9.out
      have z4 : W.cell? ⟨b9, 4, none⟩ = some (.slice t.sa.A t.sa.n t.sa.c) := cell_of_row W b9 4 _ _ (0, 0) X9.out
      have z5 : W.cell? ⟨b9, 5, none⟩ = some (.slice t.sk.A t.sk.n t.sk.c) := cell_of_row W b9 5 _ _ (0, 0) X9.out
      have CT := Lib.hid (take_any XW.out t WT.out)
      obtain ⟨av, hav⟩ : ∃ a, (scanM (er t) old left old.length).1 = a := ⟨_, rfl⟩
      have SN2 : Hid ((t.kind = 4 → foldM old ((erL ts).take (j + 1)) = ⟨List.replicate old.length false, take ++ [av], kept ++ idxM (leftM left av) old.length⟩) ∧ (¬ t.kind = 4 → foldM old ((erL ts).take (j + 1)) = ⟨leftM left av, take ++ [av], kept⟩)) := Lib.hid (by
        rw [SN.out, stepM, HKD.out]
        simp only [hav]
        exact ⟨fun h => by rw [if_pos h], fun h => by rw [if_neg h]⟩)
      rw [hav] at CT
      clear hav SN HKD
      obtain ⟨r, hr⟩ : ∃ r, n' - j = r + 1 := ⟨n' - j - 1, by omega⟩
      rw [hr] at TKW
      have HRR : Hid (n' - (j + 1) = r) := Lib.hid (by omega)
      clear hr
      go_wp2_with fail
      refine CT.out.mono ?_
      rintro e w7 ⟨rfl, lf7, b7⟩
      have LF7 := Lib.hid lf7
      have TK7 := Lib.hid (TKW.out.but b7 (XW.out.noI TKW.out))
      have KP7 := Lib.hid (KPW.out.but b7 (XW.out.noI KPW.out))
      have X97 := Lib.hid ((b7.block b9 (heap_lt X9.out) (fun e => by have := B9.out; rcases e with e | e | e <;> omega)).trans X9.out)
      have R7 := Lib.hid ((b7.block _ (heap_lt RW.out) (fun e => by have := PR.out; rcases e with e | e | e <;> omega)).trans RW.out)
      have BW7 : Hid (Below w.heap.size w w7) := Lib.hid (BW.out.trans (b7.to_below (fun i _ e => by have := PR.out; rcases e with e | e | e <;> omega) BW.out.size))
      obtain ⟨f7, c7, own8⟩ := own_int_set TK7.out (k := j) (by have := HTL.out; simp; omega) av
      obtain ⟨u7, hu7⟩ := Option.isSome_iff_exists.1 c7
      have hS : Below w2.heap.size w7 (w7.setCell ⟨t0, j, none⟩ (.int .i64 av)) := (set_but w7 t0 j _).to_below (fun i _ e => by have := B9.out; omega) (by have := (TK7.out.lt (g := t0) rfl); omega)
      have LF8 := Lib.hid (LF7.out.below hS PR.out.2.1 LT.out.1 LT.out.2.1 LT.out.2.2.1 LT.out.2.2.2)
      have TK8 : Hid (kI.Own (w7.setCell ⟨t0, j, none⟩ (.int .i64 av)) w2.heap.size (.slice (some ⟨t0, 0, none⟩) n' n') ((take ++ [av]) ++ List.replicate r 0)) := Lib.hid (by rw [← set_at HTL.out av]; exact own8)
      have KP8 := Lib.hid (KP7.out.but (set_but w7 t0 j (.int .i64 av)) (fun i hi e => AP.out (by rw [hi, e])))
      have X98 := Lib.hid (((set_but w7 t0 j (.int .i64 av)).block b9 (heap_lt X97.out) (fun e => by have := B9.out; omega)).trans X97.out)
      have R8 := Lib.hid (((set_but w7 t0 j (.int .i64 av)).block w.heap.size (heap_lt R7.out) (fun e => by have := B9.out; have := PR.out; omega)).trans R7.out)
      have BW8 : Hid (Below w.heap.size w (w7.setCell ⟨t0, j, none⟩ (.int .i64 av))) := Lib.hid (BW7.out.trans (hS.mono (by have := PR.out; omega)))
      clear b7 lf7 c7 own8 hS CT z0 z1 z2 z3 z4 z5 TKW KPW XW RW BW X9
      go_upto_region 8 with fail
      clear f7 hu7 TK7 KP7 LF7 X97 R7 BW7
      generalize w7.setCell ⟨t0, j, none⟩ (.int .i64 av) = w8 at LF8 TK8 KP8 X98 R8 BW8 ⊢
      have z0 : w8.cell? ⟨b9, 0, none⟩ = some (.int .i64 t.kind) := cell_of_row w8 b9 0 _ _ (0, 0) X98.out
      by_cases h4 : t.kind = 4
      · rw [h4] at z0
        have sn3 := SN2.out.1 h4
        rw [HN.out] at sn3
        have SN3 := Lib.hid sn3
        clear sn3
        obtain ⟨F8, s8, f8, nl8, lf8⟩ := LF8.out
        have L8 := Lib.hid lf8
        have CA := Lib.hid (takeAll_any lf8)
        clear lf8 LF8 SN2
        go_wp2_with fail
        refine CA.out.mono ?_
        rintro e w9 ⟨A4, n4, c4, rfl, own4, lf9, b9'⟩
        have O4 := Lib.hid own4
        have LF9 := Lib.hid lf9
        have TK9 := Lib.hid (TK8.out.but b9' (L8.out.noI TK8.out))
        have KP9 := Lib.hid (KP8.out.but b9' (L8.out.noI KP8.out))
        have R9 := Lib.hid ((b9'.block _ (heap_lt R8.out) (fun e => by have := PR.out; rcases e with e | e | e <;> omega)).trans R8.out)
        have BW9 : Hid (Below w.heap.size w w9) := Lib.hid (BW8.out.trans (b9'.to_below (fun i _ e => by have := PR.out; rcases e with e | e | e <;> omega) BW8.out.size))
        have CC9 : Hid (t0 < w9.heap.size ∧ w2.heap.size ≤ w9.heap.size) := Lib.hid ⟨(TK9.out.lt (g := t0) rfl).2, by have := (TK9.out.lt (g := t0) rfl); omega⟩
        have OS := O4.out.slice
        obtain ⟨A', m', d', hv, e1, e2, e3, e4, e5⟩ := OS
        injection hv with q1 q2 q3
        subst q1; subst q2; subst q3
        have E1 := Lib.hid e1
        have E4 := Lib.hid e4
        have E5 := Lib.hid e5
        have hil := idxM_len (leftM left av) n
        rw [e1] at hil
        clear b9' lf9 own4 e1 e2 e3 e4 e5 z0 CA
        go_upto_region 10 with (at_builtin; refine kI.wp_app rfl _ _ rfl (v := .slice A3 n3 c3) (l := kept) (m := idxM (leftM left av) n) (B := w2.heap.size) (A := A4) (n := n4) (c := c4) rfl KP9.out rfl E1.out E4.out E5.out (by have := HKL.out; omega) CC9.out.2 ?_; intro v' w10 hown hgrow hat; obtain ⟨A5, n5, c5, rfl, _, _, _, _, _⟩ := hown.slice; have K10 := Lib.hid hown; have S10 : Hid (Below w2.heap.size w9 w10) := Lib.hid ((Below.refl _ _).grown hgrow CC9.out.2 (fun i hi => (KP9.out.lt hi).1)); have T10 := Lib.hid (TK9.out.grown hgrow (fun i hi e => AP.out (by rw [e, ← hi]; rfl))); have R10 := Lib.hid ((hgrow.block _ (heap_lt R9.out) (fun e => by have := (KP9.out.lt e.symm).1; have := PR.out; omega)).trans R9.out); have P10 : Hid ((Value.slice A5 n5 c5).ownBlock ≠ some t0) := Lib.hid (fun e => hat.elim (fun q => AP.out (q.symm.trans e)) (fun q => by have := CC9.out; rw [q] at e; have := Option.some.inj e; omega)); clear hown hgrow hat)
        have L10 := Lib.hid (LF9.out.below S10.out PR.out.2.1 LT.out.1 LT.out.2.1 LT.out.2.2.1 LT.out.2.2.2)
        have B10 : Hid (Below w.heap.size w w10) := Lib.hid (BW9.out.trans (S10.out.mono (by have := PR.out; omega)))
        have REL : Hid (OfRel w w2 w1.heap.size p g h m t0 A n c old (erL ts) n' (j + 1) A5 n5 c5 w10) := Lib.hid {
          lf := by rw [SN3.out]; exact L10.out
          tk := by rw [SN3.out, HRR.out]; exact T10.out
          kp := by rw [SN3.out]; exact K10.out
          ap := P10.out
          res := R10.out
          hb := B10.out }
        go_wp2_with fail
        go_roundw
        case rel => exact ⟨j + 1, A5, n5, c5, by omega, by go_num, rfl, REL⟩
        case measure => simp [intOf]; omega
      · have SN3 := Lib.hid (SN2.out.2 h4)
        have q4 := int_ne h4
        have REL : Hid (OfRel w w2 w1.heap.size p g h m t0 A n c old (erL ts) n' (j + 1) A3 n3 c3 w8) := Lib.hid {
          lf := by rw [SN3.out]; exact LF8.out
          tk := by rw [SN3.out, HRR.out]; exact TK8.out
          kp := by rw [SN3.out]; exact KP8.out
          ap := AP.out
          res := R8.out
          hb := BW8.out }
        go_wp2_with fail
        go_roundw
        case rel => exact ⟨j + 1, A3, n3, c3, by omega, by go_num, rfl, REL⟩
        case measure => simp [intOf]; omega
    · obtain rfl : j = n' := by omega
      have e : (erL ts).take j = erL ts := List.take_of_length_le (by have := EL.out; omega)
      rw [e] at hlens hleft
      have HR2 := HR.out
      have TK := HR2.tk
      have KP := HR2.kp
      obtain ⟨F, s', f', nl', lf⟩ := HR2.lf
      rw [e] at TK KP lf
      rw [Nat.sub_self, List.replicate_zero, List.append_nil] at TK
      have TK0 := Lib.hid TK
      have KP0 := Lib.hid KP
      have L0 := Lib.hid lf
      have R0 := Lib.hid HR2.res
      have BW0 := Lib.hid HR2.hb
      have CA := Lib.hid (takeAll_any lf)
      have HWW : Hid (w.heap.size < wr.heap.size) := Lib.hid (heap_lt R0.out)
      have HTL : Hid ((foldM old (erL ts)).take.length = j) := Lib.hid hlens.1
      clear HR HR2 TK KP lf e hleft hlens
      go_wp2_with fail
      refine CA.out.mono ?_
      rintro e w9 ⟨A4, n4, c4, rfl, own4, lf9, b9⟩
      have O4 := Lib.hid own4
      have TK9 := Lib.hid (TK0.out.but b9 (L0.out.noI TK0.out))
      have KP9 := Lib.hid (KP0.out.but b9 (L0.out.noI KP0.out))
      have R9 := Lib.hid ((b9.block _ (heap_lt R0.out) (fun e => by have := PR.out; rcases e with e | e | e <;> omega)).trans R0.out)
      have BW9 : Hid (Below w.heap.size w w9) := Lib.hid (BW0.out.trans (b9.to_below (fun i _ e => by have := PR.out; rcases e with e | e | e <;> omega) BW0.out.size))
      have hzl : w.heap.size < w9.heap.size := heap_lt R9.out
      have r0 : w9.cell? ⟨w.heap.size, 0, none⟩ = some (.slice none 0 0) := cell_of_row w9 _ 0 _ _ (0, 0) R9.out
      have r1 : w9.cell? ⟨w.heap.size, 1, none⟩ = some (.slice none 0 0) := cell_of_row w9 _ 1 _ _ (0, 0) R9.out
      have r2 : w9.cell? ⟨w.heap.size, 2, none⟩ = some (.slice none 0 0) := cell_of_row w9 _ 2 _ _ (0, 0) R9.out
      have rf : ∀ i, w9.frozen? ⟨w.heap.size, i, none⟩ = false := fun i => by have hb := R9.out; simp [World.frozen?, hb]
      clear own4 lf9 b9 CA TK0 KP0 L0 R0 BW0
      go_wp2_with fail
      refine bodyPost_ret (v := .agg #[.slice (some ⟨t0, 0, none⟩) j j, .slice A3 n3 c3, .slice A4 n4 c4]) (by simp [results, Try.results18, go_sem, r0, r1, r2, hzl]) rfl ⟨_, _, _, _, _, _, _, _, _, rfl, ?_, ?_⟩
      · have hb := three_set w9 w.heap.size (.slice (some ⟨t0, 0, none⟩) j j) (.slice A3 n3 c3) (.slice A4 n4 c4)
        have h1 := ownI_is (TK9.out.but hb (fun i hi e => by have := (TK9.out.lt hi).1; have := PR.out; omega))
        have h2 := ownI_is (KP9.out.but hb (fun i hi e => by have := (KP9.out.lt hi).1; have := PR.out; omega))
        have h3 := ownI_is (O4.out.but hb (fun i hi e => by have := (O4.out.lt hi).1; have := HWW.out; omega))
        rw [← HN.out] at h3
        exact ⟨h1.1, h2.1, h3.1, h1.2.2.2, h2.2.2.2, h3.2.2.2, h1.2.1, h2.2.1, h3.2.1, h1.2.2.1, h2.2.2.1, h3.2.2.1⟩
      · exact BW9.out.trans ((three_set w9 w.heap.size _ _ _).to_below (fun i _ e => by omega) BW9.out.size)
theorem match_c : MatchC := fun old A n c ts A' n' c' w hh hsz hn _ _ hs hm hwf hwt => match_n old A n c ts A' n' c' w hh hsz hn hs (wn_of hm) hwf hwt
end Go.Proofs.Ythdgaoifbejpjaa.P16
