/- What the laws of layer 5 are told of a node; what a change leaves of the last identity. -/
import Derived.Deep.MidRow
import Derived.Deep.DeepCutAuto
import Derived.Deep.CutBlock
import Derived.Test.YtcdcgdblchchkaaM16
import Derived.Test.YtcdcgdblchchkaaM17
import Derived.Test.YtcdcgdblchchkaaM19
import Derived.Test.YtcdcgdblchchkaaM20
set_option linter.unusedVariables false
set_option linter.unusedSimpArgs false
set_option linter.unusedVariables false
set_option linter.unusedSimpArgs false
namespace Go.Proofs.Ytcdcgdblchchkaa.P5
open Go.RowKit Kd P4
variable {B p : Nat} {x : Dx}

/-! ### What a change leaves of the last identity -/
theorem apply_n (d : D) (r : Rc) : d.n ≤ (applyD d r).2.n ∧ (applyD d r).2.n ≤ d.n + 1 := by
  unfold applyD
  split
  · unfold makeD
    split
    · exact ⟨Int.le_refl _, by show d.n ≤ d.n + 1; omega⟩
    · split
      · exact ⟨Int.le_refl _, by show d.n ≤ d.n + 1; omega⟩
      · show d.n ≤ d.n + 1 ∧ d.n + 1 ≤ d.n + 1
        omega
  · split
    · unfold putD; split <;> exact ⟨Int.le_refl _, by show d.n ≤ d.n + 1; omega⟩
    · split
      · unfold goneD
        split
        · exact ⟨Int.le_refl _, by show d.n ≤ d.n + 1; omega⟩
        · split <;> exact ⟨Int.le_refl _, by show d.n ≤ d.n + 1; omega⟩
      · split
        · unfold attrsD
          split
          · exact ⟨Int.le_refl _, by show d.n ≤ d.n + 1; omega⟩
          · split
            · exact ⟨Int.le_refl _, by show d.n ≤ d.n + 1; omega⟩
            · split <;> exact ⟨Int.le_refl _, by show d.n ≤ d.n + 1; omega⟩
        · split
          · unfold dataD
            split
            · exact ⟨Int.le_refl _, by show d.n ≤ d.n + 1; omega⟩
            · split
              · exact ⟨Int.le_refl _, by show d.n ≤ d.n + 1; omega⟩
              · split <;> exact ⟨Int.le_refl _, by show d.n ≤ d.n + 1; omega⟩
          · exact ⟨Int.le_refl _, by show d.n ≤ d.n + 1; omega⟩
theorem focus_n (d : D) (i : Int) : (focusD d i).2.n = d.n := by
  unfold focusD; split <;> rfl

/-! ### A node that has been told, in a block of its own -/
section
variable {w w' : World} {g : Nat} {nd : Nd} {A A2 : Option Addr} {n c n2 k2 : Nat}
end
theorem dep_len {l : List Nd} (h : Tr (fun y => hasL l y = true) (parOf l) (kidsOf l)) {y : Int} (hy : hasL l y = true) : depOf (parOf l) y ≤ l.length := by
  obtain ⟨k, hk⟩ := h.dep y
  have := h.dep_le (L := idsOf l) (fun y hy => has_ids.1 hy) hy hk
  rw [depOf_is hk]
  simpa [idsOf] using this
theorem one_of {l : List Int} (h : l.Nodup) {i j : Nat} (hi : i < l.length) (hj : j < l.length) (hij : i < j) : (l[i] == l[j]) = false := by
  rw [beq_eq_false_iff_ne]
  have := List.pairwise_iff_getElem.1 h i j hi hj hij
  exact this
end Go.Proofs.Ytcdcgdblchchkaa.P5

/- The reference's document as it lies in memory; where one stands, its children, its parent, all above it, whether it is inside another. -/
set_option linter.unusedVariables false
set_option linter.unusedSimpArgs false
namespace Go.Proofs.Ytcdcgdblchchkaa.P5
open Go.RowKit Kd P4

structure Rn where
  va : Sv
  vk : Sv
  nd : Nd
def Rn.rn (r : Rn) : RN := ⟨r.nd.id, r.nd.par, r.nd.tag, r.nd.txt, r.nd.key, r.va, r.vk, r.nd.note⟩
structure Rx where
  v : Value
  n : Int
  R : Nat
  foc : Int
  rs : List Rn
def Rx.l (y : Rx) : List Nd := y.rs.map (·.nd)
def Rx.d (y : Rx) : D := ⟨y.l, y.n, y.R, y.foc⟩
def rfoot (q : Nat) (y : Rx) (k : Nat) : Prop := k = q ∨ y.v.ownBlock = some k ∨ ∃ r ∈ y.rs, r.vk.val.ownBlock = some k
structure RNok (w : World) (B : Nat) (r : Rn) : Prop where
  att : AOk w r.va r.nd.attrs
  kids : kI.Own w B r.vk.val r.nd.kids
variable {B q : Nat} {y : Rx}
section
variable {w w' : World}
theorem rl_len (y : Rx) : y.l.length = y.rs.length := by simp [Rx.l]
theorem rplace {i : Int} (ha : Asc y.l) (hi : hasL y.l i = true) : ∃ k, ∃ hk : k < y.rs.length, y.rs[k].nd.id = i ∧ find y.l i = some y.rs[k].nd := by
  obtain ⟨z, hz, rfl⟩ := has_iff.1 hi
  obtain ⟨r, hr, rfl⟩ := List.mem_map.1 hz
  obtain ⟨k, hk, rfl⟩ := List.mem_iff_getElem.1 hr
  exact ⟨k, hk, rfl, ha.find hz⟩
end

/-! ### At -/
/-! ### Kids, Parent -/
theorem rtag_at {k : Nat} {i : Int} (ha : Asc y.l) (hk : k < y.rs.length) (hy : y.rs[k].nd.id = i) : tagOf y.l i = y.rs[k].nd.tag ∧ parOf y.l i = y.rs[k].nd.par ∧ kidsOf y.l i = y.rs[k].nd.kids := by
  have hm : y.rs[k].nd ∈ y.l := List.mem_map.2 ⟨y.rs[k], List.getElem_mem hk, rfl⟩
  have hf := ha.find hm
  rw [hy] at hf
  unfold tagOf parOf kidsOf
  rw [hf]
  exact ⟨rfl, rfl, rfl⟩
theorem no_at {l : List Nd} {i : Int} (h : hasL l i = false) : parOf l i = 0 ∧ kidsOf l i = [] := by
  have : find l i = none := by simpa [hasL] using h
  unfold parOf kidsOf
  rw [this]
  exact ⟨rfl, rfl⟩
/-! ### Up, Inside -/
theorem up_step {l : List Nd} {f : Nat} {x : Int} (h : hasL l x = true) : up (hasL l) (parOf l) (f + 1) x = x :: up (hasL l) (parOf l) f (parOf l x) := by rw [up, if_pos h]
theorem up_stop {l : List Nd} {f : Nat} {x : Int} (h : hasL l x = false) : up (hasL l) (parOf l) f x = [] := by
  cases f with
  | zero => rfl
  | succ f => rw [up, if_neg (by rw [h]; simp)]
def GotInts (w : World) (l : List Int) (e : Ending) (w' : World) : Prop := ∃ A n c, e = .returned (.slice A n c) ∧ kI.Own w' w.heap.size (.slice A n c) l ∧ Below w.heap.size w w'
theorem above_len {l : List Nd} : ∀ (f : Nat) (x : Int), (up (hasL l) (parOf l) f x).length ≤ f
  | 0, _ => by simp [up]
  | f + 1, x => by
    rw [up]
    split
    · simp only [List.length_cons]; have := above_len (l := l) f (parOf l x); omega
    · simp
end Go.Proofs.Ytcdcgdblchchkaa.P5

/- The reference: all below one; a node that is set anew. -/
set_option linter.unusedVariables false
set_option linter.unusedSimpArgs false
namespace Go.Proofs.Ytcdcgdblchchkaa.P5
open Go.RowKit Kd P4
variable {B q : Nat} {y : Rx}

/-! ### All -/
theorem own_lit (w : World) (i : Int) : kI.Own (w.alloc (.cells #[.int .i64 i] 3)) w.heap.size (.slice (some ⟨w.heap.size, 0, none⟩) 1 1) [i] :=
  Kind.own_mk (K := kI) (cur := #[.int .i64 i]) rfl (Nat.le_refl _) (heap_alloc_new w _) (Nat.le_refl _) (by unfold maxLen; omega) rfl rfl
/-! ### set -/
theorem Kind.Own.setE {P : Program} {α : Type} {K : Kind P α} {w : World} {g n c : Nat} {l : List α} (h : K.Own w B (.slice (some ⟨g, 0, none⟩) n c) l) {k : Nat} (hk : k < l.length) (a : α) :
    K.Own (w.setCells g (k * K.size) (K.cs a)) B (.slice (some ⟨g, 0, none⟩) n c) (l.set k a) := by
  rcases h.form with ⟨hv, _⟩ | ⟨g', c', cur, hv, _, hBg, hlt, hh, hnc, hcm, hcs, ht⟩
  · cases hv
  injection hv with e1 e2 e3
  injection e1 with e1
  injection e1 with e1
  subst e1; subst e2; subst e3
  obtain ⟨cur', h1, h2, h3⟩ := heap_setCells g (K.cs a) (k * K.size) w cur _ _ hh
  have hmul : l.length * K.size ≤ c * K.size := Nat.mul_le_mul_right _ hnc
  have hkm : (k + 1) * K.size ≤ l.length * K.size := Nat.mul_le_mul_right _ hk
  have hkm2 : (k + 1) * K.size = k * K.size + K.size := by rw [Nat.add_mul, Nat.one_mul]
  refine Kind.own_mk (by simp) hBg h1 hnc hcm (by rw [h2]; exact hcs) ?_
  apply List.ext_getElem?
  intro i
  have hpos := K.hpos
  rw [List.getElem?_take]
  by_cases hi : i < l.length * K.size
  · rw [if_pos hi, Array.getElem?_toList, h3 i (by omega), K.len]
    have hdm : i / K.size * K.size + i % K.size = i := by rw [Nat.mul_comm]; exact Nat.div_add_mod i K.size
    have hmod : i % K.size < K.size := Nat.mod_lt _ hpos
    have hdiv : i / K.size < l.length := by rw [Nat.div_lt_iff_lt_mul hpos]; exact hi
    have hat := K.cells_at (l.set k a) (i / K.size) (by simpa using hdiv) (i % K.size) hmod
    rw [hdm] at hat
    rw [hat, List.getElem_set]
    by_cases hik : k = i / K.size
    · subst hik
      rw [if_pos rfl, if_pos ⟨by omega, by omega⟩]
      congr 1
      omega
    · rw [if_neg hik]
      have hat2 := K.cells_at l (i / K.size) hdiv (i % K.size) hmod
      rw [hdm] at hat2
      rw [← hat2, ← ht, List.getElem?_take, if_pos hi, if_neg ?_, Array.getElem?_toList]
      rintro ⟨h5, h6⟩
      apply hik
      have h7 : k ≤ i / K.size := by rw [Nat.le_div_iff_mul_le hpos]; exact h5
      have h8 : i / K.size < k + 1 := by rw [Nat.div_lt_iff_lt_mul hpos]; omega
      omega
  · rw [if_neg hi, List.getElem?_eq_none]
    rw [Kind.cells_len, List.length_set]
    omega
end Go.Proofs.Ytcdcgdblchchkaa.P5

/- The reference: a node that leaves. -/
set_option linter.unusedVariables false
set_option linter.unusedSimpArgs false
namespace Go.Proofs.Ytcdcgdblchchkaa.P5
open Go.RowKit Kd P4
variable {B q : Nat} {y : Rx}

/-- a node of the list, as its cells lie -/
structure Lies (w : World) (b o : Nat) (nd : Nd) (A : Option Addr) (n c : Nat) (A2 : Option Addr) (n2 k2 : Nat) : Prop where
  c0 : w.cell? ⟨b, o, none⟩ = some (.int .i64 nd.id)
  c1 : w.cell? ⟨b, o + 1, none⟩ = some (.int .i64 nd.par)
  c2 : w.cell? ⟨b, o + 2, none⟩ = some (.string nd.tag)
  c3 : w.cell? ⟨b, o + 3, none⟩ = some (.string nd.txt)
  c4 : w.cell? ⟨b, o + 4, none⟩ = some (.string nd.key)
  c5 : w.cell? ⟨b, o + 5, none⟩ = some (.slice A n c)
  c6 : w.cell? ⟨b, o + 6, none⟩ = some (.slice A2 n2 k2)
  c7 : w.cell? ⟨b, o + 7, none⟩ = some (.int .i64 nd.note)
theorem less_take {i : Int} {l : List Int} {j : Nat} (hj : j < l.length) : less i (l.take (j + 1)) = if l[j] = i then less i (l.take j) else less i (l.take j) ++ [l[j]] := by
  unfold less
  rw [List.take_succ_eq_append_getElem hj, List.filter_append]
  by_cases e : l[j] = i
  · rw [if_pos e]; simp [e]
  · rw [if_neg e]; simp [e]
theorem two_set {l : List Nd} (h : Asc l) {k k2 : Nat} (hk : k < l.length) (hk2 : k2 < l.length) (hne : k2 ≠ k) (f g : Nd → Nd) (hf : ∀ x, (f x).id = x.id) :
    (l.set k2 (f l[k2])).set k (g l[k]) = upd (upd l l[k2].id f) l[k].id g ∧ Asc (l.set k2 (f l[k2])) := by
  have e1 := h.set_upd hk2 f
  have e2 : (l.set k2 (f l[k2]))[k]'(by simpa using hk) = l[k] := List.getElem_set_ne hne _
  have hA : Asc (l.set k2 (f l[k2])) := asc_of_ids h (by
    unfold idsOf
    rw [List.map_set, hf]
    apply List.ext_getElem
    · simp
    · intro j h1 h2
      rw [List.getElem_set]
      by_cases e : k2 = j
      · subst e; rw [if_pos rfl, List.getElem_map]
      · rw [if_neg e])
  have := hA.set_upd (k := k) (by simpa using hk) g
  rw [e2] at this
  exact ⟨by rw [this, e1], hA⟩
end Go.Proofs.Ytcdcgdblchchkaa.P5

/- The reference: two nodes that are the same, are told so. -/
set_option linter.unusedVariables false
set_option linter.unusedSimpArgs false
namespace Go.Proofs.Ytcdcgdblchchkaa.P5
open Go.RowKit Kd P4

theorem sameA_refl : ∀ l : List P3.At, P3.sameA l l = true
  | [] => rfl
  | a :: l => by rw [P3.sameA, P3.atB_refl, sameA_refl l]; rfl
set_option maxHeartbeats 1000000 in
theorem ints_eq (l : List Int) (A A' : Option Addr) (n c c' : Nat) (w : World) (hn : l.length = n) (hl : n ≤ 1000000) (h1 : kI.Holds w w.heap.size A l) (h2 : kI.Holds w w.heap.size A' l) :
    Calls Try.prog 10 #[.slice A n c, .slice A' n c'] w fun e w' => e = .returned (.bool true) ∧ Below w.heap.size w w' := by
  have H1 := Lib.hid h1
  have H2 := Lib.hid h2
  have HN := Lib.hid hn
  clear h1 h2 hn
  go_enter Try.func10, Try.ntmps10
  go_wp2_with fail
  go_loopw [5] (fun s wr => ∃ j : Nat, j ≤ n ∧ s = .int .i64 j ∧ Hid (Below w.heap.size w wr)) (fun s _ => n - (intOf s).toNat)
  case atStart => exact ⟨0, by omega, rfl, Lib.hid (Below.refl _ _)⟩
  case round =>
    obtain ⟨j, hj, rfl, HW⟩ := hrel
    by_cases hjn : j < n
    · have hjl : j < l.length := by have := HN.out; omega
      obtain ⟨gb, go, rfl, _, hc⟩ := cell_int (H1.out.on HW.out) hjl
      obtain ⟨gb', go', rfl, _, hc'⟩ := cell_int (H2.out.on HW.out) hjl
      generalize l[j] = kd at hc hc'
      go_wp2_with fail
      go_quiet (fail)
      go_wp2_with fail
      go_roundw
      case rel => exact ⟨j + 1, by omega, by go_num, Lib.hid (Below_drewN HW.out _)⟩
      case measure => simp [intOf]; omega
    · go_wp2_with fail
      go_ret
      exact ⟨rfl, HW.out⟩
end Go.Proofs.Ytcdcgdblchchkaa.P5

/- Layer 16's example, the law's wants, and the walk of MatchTells, over the contract of the program's match. No condition but those stated. -/
set_option linter.unusedVariables false
set_option linter.unusedSimpArgs false
namespace Go.Proofs.Ytcdcgdblchchkaa.P16
open Go.RowKit Kd P4 P5 P11 P12 P13 P14

/-- three rows of integers that are read -/
structure R3 (w : World) (s : Ms) (n : Nat) (A1 : Option Addr) (n1 c1 : Nat) (A2 : Option Addr) (n2 c2 : Nat) (A3 : Option Addr) (n3 c3 : Nat) : Prop where
  l1 : s.take.length = n1
  l2 : s.kept.length = n2
  l3 : (idxM s.left n).length = n3
  h1 : kI.Holds w w.heap.size A1 s.take
  h2 : kI.Holds w w.heap.size A2 s.kept
  h3 : kI.Holds w w.heap.size A3 (idxM s.left n)
  k1 : n1 ≤ c1
  k2 : n2 ≤ c2
  k3 : n3 ≤ c3
  z1 : A1 = none → c1 = 0
  z2 : A2 = none → c2 = 0
  z3 : A3 = none → c3 = 0
theorem R3.on {w w' : World} {s : Ms} {n : Nat} {A1 A2 A3 : Option Addr} {n1 c1 n2 c2 n3 c3 : Nat} (h : R3 w s n A1 n1 c1 A2 n2 c2 A3 n3 c3) (hb : Below w.heap.size w w') : R3 w' s n A1 n1 c1 A2 n2 c2 A3 n3 c3 := ⟨h.l1, h.l2, h.l3, h.h1.on hb, h.h2.on hb, h.h3.on hb, h.k1, h.k2, h.k3, h.z1, h.z2, h.z3⟩
def MOfV (w : World) (s : Ms) (n : Nat) (e : Ending) (w' : World) : Prop := ∃ (A1 : Option Addr) (n1 c1 : Nat) (A2 : Option Addr) (n2 c2 : Nat) (A3 : Option Addr) (n3 c3 : Nat), e = .returned (.agg #[.slice A1 n1 c1, .slice A2 n2 c2, .slice A3 n3 c3]) ∧ R3 w' s n A1 n1 c1 A2 n2 c2 A3 n3 c3 ∧ Below w.heap.size w w'
def MatchC : Prop := ∀ (old : List Ol) (A : Option Addr) (n c : Nat) (ts : List WV) (A' : Option Addr) (n' c' : Nat) (w : World), kO.Holds w w.heap.size A old → (∀ o ∈ old, o.tag.size ≤ maxLen ∧ o.key.size ≤ maxLen) → old.length = n → n ≤ c → c ≤ maxLen → n ≤ 1000 → Wm kW w A' n' c' ts → (∀ t ∈ erL ts, WfW t) → wtL (erL ts) ≤ 1000 →
  Calls Try.prog 7 #[.slice A n c, .slice A' n' c'] w (MOfV w (foldM old (erL ts)) old.length)
/-! ### The example -/
def upO : List Ol := [⟨⟨#[112]⟩, ⟨#[]⟩⟩, ⟨⟨#[]⟩, ⟨#[]⟩⟩]
def upT : List WV := [.mk 2 ⟨#[]⟩ ⟨#[]⟩ ⟨#[]⟩ ⟨none, 0, 0⟩ [] ⟨none, 0, 0⟩ [], .mk 1 ⟨#[112]⟩ ⟨#[]⟩ ⟨#[]⟩ ⟨none, 0, 0⟩ [] ⟨none, 0, 0⟩ []]
theorem bq_data (a b : ByteArray) : bq a b = (a.data.toList == b.data.toList) := by rw [bq, ByteArray.toList_eq, ByteArray.toList_eq]
theorem takes_data (w : PW) (o : Ol) (f : Bool) : takesW w o f = (if w.kind = 1 then (o.tag.data.toList == w.tag.data.toList) && (o.key.data.toList == w.key.data.toList) && (f || !w.key.data.toList.isEmpty) else if w.kind = 2 then f && o.tag.data.toList.isEmpty else if w.kind = 3 then f else false) := by
  simp only [takesW, bq_data, ByteArray.toList_eq]
theorem up_fold : foldM upO (erL upT) = ⟨[false, true], [-1, 0], []⟩ := by
  have e : erL upT = [.mk 2 ⟨#[]⟩ ⟨#[]⟩ ⟨#[]⟩ [] [], .mk 1 ⟨#[112]⟩ ⟨#[]⟩ ⟨#[]⟩ [] []] := by simp [upT, erL, er]
  rw [e]
  simp only [foldM, List.foldl, stepM, scanM, upO, takes_data, List.length_cons, List.length_nil, PW.kind, PW.tag, PW.key]
  rfl
theorem up_wf : ∀ t ∈ erL upT, WfW t := by
  have e : erL upT = [.mk 2 z0 z0 ⟨#[]⟩ [] [], .mk 1 ⟨#[112]⟩ ⟨#[]⟩ z0 [] []] := by simp [upT, erL, er, show z0 = (⟨#[]⟩ : ByteArray) from rfl]
  rw [e]
  intro t ht
  simp only [List.mem_cons, List.not_mem_nil, or_false] at ht
  rcases ht with rfl | rfl
  · exact .tx (by simp only [mayI, ez, show z0 = ⟨#[]⟩ from rfl]; decide)
  · exact .el (by simp only [mayI]; decide) (by intro a ha; cases ha) (by intro k hk; cases hk)
set_option maxRecDepth 100000 in
set_option maxHeartbeats 8000000 in
theorem up16_any (C : MatchC) (w : World) : Calls Try.prog 5 #[] w fun e w' => e = .returned (.bool true) ∧ Below w.heap.size w w' := by
  have X1 : Hid (((w.alloc (.cells #[.string ⟨#[112]⟩, .string ⟨#[]⟩, .string ⟨#[]⟩, .string ⟨#[]⟩] 30)).alloc (.cells #[.int .i64 2, .string ⟨#[]⟩, .string ⟨#[]⟩, .string ⟨#[]⟩, .slice none 0 0, .slice none 0 0, .int .i64 1, .string ⟨#[112]⟩, .string ⟨#[]⟩, .string ⟨#[]⟩, .slice none 0 0, .slice none 0 0] 44)).heap[w.heap.size]? = some (.cells #[.string ⟨#[112]⟩, .string ⟨#[]⟩, .string ⟨#[]⟩, .string ⟨#[]⟩] 30 (0, 0))) := Lib.hid (heap_up (heap_alloc_new w _))
  have Y1 : Hid (((w.alloc (.cells #[.string ⟨#[112]⟩, .string ⟨#[]⟩, .string ⟨#[]⟩, .string ⟨#[]⟩] 30)).alloc (.cells #[.int .i64 2, .string ⟨#[]⟩, .string ⟨#[]⟩, .string ⟨#[]⟩, .slice none 0 0, .slice none 0 0, .int .i64 1, .string ⟨#[112]⟩, .string ⟨#[]⟩, .string ⟨#[]⟩, .slice none 0 0, .slice none 0 0] 44)).heap[w.heap.size + 1]? = some (.cells #[.int .i64 2, .string ⟨#[]⟩, .string ⟨#[]⟩, .string ⟨#[]⟩, .slice none 0 0, .slice none 0 0, .int .i64 1, .string ⟨#[112]⟩, .string ⟨#[]⟩, .string ⟨#[]⟩, .slice none 0 0, .slice none 0 0] 44 (0, 0))) := Lib.hid (by
    have := heap_alloc_new (w.alloc (.cells #[.string ⟨#[112]⟩, .string ⟨#[]⟩, .string ⟨#[]⟩, .string ⟨#[]⟩] 30)) (.cells #[.int .i64 2, .string ⟨#[]⟩, .string ⟨#[]⟩, .string ⟨#[]⟩, .slice none 0 0, .slice none 0 0, .int .i64 1, .string ⟨#[112]⟩, .string ⟨#[]⟩, .string ⟨#[]⟩, .slice none 0 0, .slice none 0 0] 44)
    simpa using this)
  have B1 : Hid (Below w.heap.size w ((w.alloc (.cells #[.string ⟨#[112]⟩, .string ⟨#[]⟩, .string ⟨#[]⟩, .string ⟨#[]⟩] 30)).alloc (.cells #[.int .i64 2, .string ⟨#[]⟩, .string ⟨#[]⟩, .string ⟨#[]⟩, .slice none 0 0, .slice none 0 0, .int .i64 1, .string ⟨#[112]⟩, .string ⟨#[]⟩, .string ⟨#[]⟩, .slice none 0 0, .slice none 0 0] 44))) := Lib.hid (((Below.refl _ _).alloc (Nat.le_refl _) _).alloc (by simp) _)
  have CM : Hid (∀ wz : World, wz.heap[w.heap.size]? = some (.cells #[.string ⟨#[112]⟩, .string ⟨#[]⟩, .string ⟨#[]⟩, .string ⟨#[]⟩] 30 (0, 0)) → wz.heap[w.heap.size + 1]? = some (.cells #[.int .i64 2, .string ⟨#[]⟩, .string ⟨#[]⟩, .string ⟨#[]⟩, .slice none 0 0, .slice none 0 0, .int .i64 1, .string ⟨#[112]⟩, .string ⟨#[]⟩, .string ⟨#[]⟩, .slice none 0 0, .slice none 0 0] 44 (0, 0)) →
      Calls Try.prog 7 #[.slice (some ⟨w.heap.size, 0, none⟩) 2 2, .slice (some ⟨w.heap.size + 1, 0, none⟩) 2 2] wz (MOfV wz ⟨[false, true], [-1, 0], []⟩ 2)) := Lib.hid (fun wz h1 h2 => by
    have := C upO (some ⟨w.heap.size, 0, none⟩) 2 2 upT (some ⟨w.heap.size + 1, 0, none⟩) 2 2 wz ((Kind.Holds.lit h1 rfl).more (heap_lt h1)) (by intro o ho; simp only [upO, List.mem_cons, List.not_mem_nil, or_false] at ho; rcases ho with rfl | rfl <;> exact ⟨by decide, by decide⟩) rfl (Nat.le_refl _) (by decide) (by omega)
      ⟨rfl, Nat.le_refl _, by decide, (fun e => by cases e), (Kind.Holds.lit h2 rfl).more (heap_lt h2), fun t ht => by
        have hz : ∀ (k : Int) (a b c : ByteArray), WOk kW wz wz.heap.size (.mk k a b c ⟨none, 0, 0⟩ [] ⟨none, 0, 0⟩ []) := fun k a b c => ⟨rfl, Nat.le_refl _, fun _ => rfl, Kind.Holds.nil _ _ _, rfl, Nat.le_refl _, fun _ => rfl, Kind.Holds.nil _ _ _, (by intro k hk; cases hk)⟩
        simp only [upT, List.mem_cons, List.not_mem_nil, or_false] at ht
        rcases ht with rfl | rfl
        · exact hz _ _ _ _
        · exact hz _ _ _ _⟩ up_wf (by simp [upT, erL, er, wtL, wtW])
    rw [up_fold] at this
    exact this)
  go_enter Try.func5, Try.ntmps5
  go_wp2_with fail
  refine (CM.out _ X1.out Y1.out).mono ?_
  rintro e w2 ⟨A1, n1, c1, A2, n2, c2, A3, n3, c3, rfl, r3, b2⟩
  have B2 := Lib.hid (B1.out.trans (b2.mono B1.out.size))
  obtain rfl : n1 = 2 := r3.l1.symm
  obtain rfl : n2 = 0 := r3.l2.symm
  obtain rfl : n3 = 1 := r3.l3.symm
  obtain ⟨b1, o1, rfl, hb1, t0⟩ := cell_int r3.h1 (k := 0) (by decide)
  obtain ⟨b1', o1', e1, _, t1⟩ := cell_int r3.h1 (k := 1) (by decide)
  injection e1 with e1
  injection e1 with e1 e2 _
  subst e1; subst e2
  obtain ⟨b3, o3, rfl, hb3, t3⟩ := cell_int r3.h3 (k := 0) (by decide)
  have t0 : w2.cell? ⟨b1, o1, none⟩ = some (.int .i64 (-1)) := t0
  have t1 : w2.cell? ⟨b1, o1 + 1, none⟩ = some (.int .i64 0) := t1
  have t3 : w2.cell? ⟨b3, o3, none⟩ = some (.int .i64 1) := t3
  have T0 : Hid (∀ wz, Below w2.heap.size w2 wz → wz.cell? ⟨b1, o1, none⟩ = some (.int .i64 (-1)) ∧ wz.cell? ⟨b1, o1 + 1, none⟩ = some (.int .i64 0) ∧ wz.cell? ⟨b3, o3, none⟩ = some (.int .i64 1)) := Lib.hid (fun wz h => ⟨(h.cell hb1).trans t0, (h.cell hb1).trans t1, (h.cell hb3).trans t3⟩)
  clear b2 r3 CM X1 Y1 B1 t0 t1 t3
  have XR : Hid ((w2.alloc (.cells #[.slice (some ⟨b1, o1, none⟩) 2 c1, .slice A2 0 c2, .slice (some ⟨b3, o3, none⟩) 1 c3] 34)).heap[w2.heap.size]? = some (.cells #[.slice (some ⟨b1, o1, none⟩) 2 c1, .slice A2 0 c2, .slice (some ⟨b3, o3, none⟩) 1 c3] 34 (0, 0))) := Lib.hid (heap_alloc_new w2 _)
  have BR : Hid (Below w2.heap.size w2 (w2.alloc (.cells #[.slice (some ⟨b1, o1, none⟩) 2 c1, .slice A2 0 c2, .slice (some ⟨b3, o3, none⟩) 1 c3] 34))) := Lib.hid ((Below.refl _ _).alloc (Nat.le_refl _) _)
  go_upto_region 2 with fail
  generalize w2.alloc (.cells #[.slice (some ⟨b1, o1, none⟩) 2 c1, .slice A2 0 c2, .slice (some ⟨b3, o3, none⟩) 1 c3] 34) = wr at XR BR ⊢
  obtain ⟨t0, t1, t3⟩ := T0.out wr BR.out
  have r0 : wr.cell? ⟨w2.heap.size, 0, none⟩ = some (.slice (some ⟨b1, o1, none⟩) 2 c1) := cell_of_row wr w2.heap.size 0 _ _ (0, 0) XR.out
  have r1 : wr.cell? ⟨w2.heap.size, 1, none⟩ = some (.slice A2 0 c2) := cell_of_row wr w2.heap.size 1 _ _ (0, 0) XR.out
  have r2 : wr.cell? ⟨w2.heap.size, 2, none⟩ = some (.slice (some ⟨b3, o3, none⟩) 1 c3) := cell_of_row wr w2.heap.size 2 _ _ (0, 0) XR.out
  have B3 := Lib.hid (B2.out.trans (BR.out.mono B2.out.size))
  go_wp2_with fail
  go_ret
  exact ⟨by first | rfl | simp, B3.out⟩
end Go.Proofs.Ytcdcgdblchchkaa.P16

/- The walks of WishTells and WishBack, over the contracts of the program's Of, Back, Count and Same. No condition but those stated. -/
set_option linter.unusedVariables false
set_option linter.unusedSimpArgs false
namespace Go.Proofs.Ytcdcgdblchchkaa.P14
open Go.RowKit Kd P4 P5 P11 P12 P13

theorem wm_of_own {w w' : World} {A : Option Addr} {n c : Nat} {ts : List WV} {Q : Nat → Prop} (own : kQ.Own w' w.heap.size (.slice A n c) ts) (new : ∀ t ∈ ts, WNew kQ w' Q t) : Wm kQ w' A n c ts := by
  have h := ownK_is own
  exact ⟨h.1, h.2.1, h.2.2.1, h.2.2.2.1, h.2.2.2.2, fun t ht => (new t ht).ok⟩
theorem wt_small {l : List In} (h : checkP l = 0) : wtL (wantP l) ≤ 120 := by
  have h1 := want_back h
  have h2 := wt_back h1.2
  rw [h1.1] at h2
  have := (check_first h).1
  omega
/-! ### WishBack -/
theorem countP_succ {l : List In} {k : Nat} (h : k < l.length) : (l.take (k + 1)).countP (fun x => makesN x.op) = (l.take k).countP (fun x => makesN x.op) + if makesN l[k].op then 1 else 0 := by
  rw [List.take_add_one, List.getElem?_eq_getElem h, List.countP_append]
  simp [List.countP_cons]
end Go.Proofs.Ytcdcgdblchchkaa.P14
