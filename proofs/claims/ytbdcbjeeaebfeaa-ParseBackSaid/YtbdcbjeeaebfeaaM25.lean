/- The document's example of layer 5, at the head of both laws: it answers true. -/
import Derived.Deep.MidRow
import Derived.Deep.DeepCutAuto
import Derived.Deep.CutBlock
import Derived.Test.YtbdcbjeeaebfeaaM12
set_option linter.unusedVariables false
set_option linter.unusedSimpArgs false
namespace Go.Proofs.Ytbdcbjeeaebfeaa.P5
open Go.RowKit Kd P4

def rec1 : Rc := ⟨1, 2, 0, 0, ⟨#[112]⟩, ⟨#[]⟩, ⟨#[]⟩, []⟩
def rec2 : Rc := ⟨2, 2, 1, 0, ⟨#[]⟩, ⟨#[]⟩, ⟨#[]⟩, []⟩
def nodeR : Nd := newN 1 ⟨#[114, 111, 111, 116]⟩ ⟨#[]⟩ ⟨#[]⟩
def nodeP : Nd := newN 2 ⟨#[112]⟩ ⟨#[]⟩ ⟨#[]⟩
theorem list1 : (⟨#[112]⟩ : ByteArray).toList = [112] := by rw [ByteArray.toList_eq]
theorem list0 : (⟨#[]⟩ : ByteArray).toList = [] := by rw [ByteArray.toList_eq]
theorem listR : (⟨#[114, 111, 111, 116]⟩ : ByteArray).toList = [114, 111, 111, 116] := by rw [ByteArray.toList_eq]
theorem ex1 : applyD (newD 9) rec1 = (0, ⟨[nodeR, nodeP], 2, 9, 0⟩) := by
  have hm : mayMake ⟨#[112]⟩ ⟨#[]⟩ ⟨#[]⟩ = true := by
    unfold mayMake
    rw [list1, list0]
    decide
  unfold applyD
  rw [if_pos (show rec1.op = 1 from rfl)]
  unfold makeD
  rw [if_neg (by rintro (e | e); (exact e rfl); (rw [show mayMake rec1.tag rec1.txt rec1.key = true from hm] at e; cases e)), if_neg (by decide)]
  rfl
theorem ex2 : applyD ⟨[nodeR, nodeP], 2, 9, 0⟩ rec2 = (0, ⟨[withKids (insA 2 0) nodeR, withPar 1 nodeP], 2, 9, 0⟩) := by
  have hk : noKids nodeR.tag = false := by
    unfold noKids
    rw [show nodeR.tag.toList = [114, 111, 111, 116] from listR]
    decide
  have he : putErr [nodeR, nodeP] 2 1 0 = 0 := by
    unfold putErr
    rw [if_neg (by decide), if_neg (by decide), if_neg (by rw [show tagOf [nodeR, nodeP] 1 = nodeR.tag from rfl, hk]; decide), if_neg (by decide), if_neg (by decide)]
  unfold applyD
  rw [if_neg (by decide), if_pos (show rec2.op = 2 from rfl)]
  unfold putD
  rw [if_pos (show putErr [nodeR, nodeP] rec2.id rec2.par rec2.bef = 0 from he)]
  rfl
theorem argNil (w : World) : ArgA w none 0 0 [] := ⟨rfl, Nat.le_refl _, fun _ => rfl, by omega, fun a h => absurd h (by simp), Kind.Holds.nil _ _ _⟩
theorem size_nil : (⟨#[]⟩ : ByteArray).size ≤ maxLen := by unfold maxLen; decide
theorem size_one : (⟨#[112]⟩ : ByteArray).size ≤ maxLen := by unfold maxLen; decide
theorem errV0 : errV 0 = .nilIface := rfl
end Go.Proofs.Ytbdcbjeeaebfeaa.P5

/- What the laws of layer 5 are told of a node; what a change leaves of the last identity. -/
namespace Go.Proofs.Ytbdcbjeeaebfeaa.P5
open Go.RowKit Kd P4
variable {B p : Nat} {x : Dx}

/-! ### What a change leaves of the last identity -/
theorem apply_n (d : D) (r : Rc) : d.n ≤ (applyD d r).2.n ∧ (applyD d r).2.n ≤ d.n + 1 := by
  unfold applyD
  split
  · unfold makeD
    split
    · exact ⟨Int.le_refl _, by show d.n ≤ d.n + 1; omega⟩
    · split
      · exact ⟨Int.le_refl _, by show d.n ≤ d.n + 1; omega⟩
      · show d.n ≤ d.n + 1 ∧ d.n + 1 ≤ d.n + 1
        omega
  · split
    · unfold putD; split <;> exact ⟨Int.le_refl _, by show d.n ≤ d.n + 1; omega⟩
    · split
      · unfold goneD
        split
        · exact ⟨Int.le_refl _, by show d.n ≤ d.n + 1; omega⟩
        · split <;> exact ⟨Int.le_refl _, by show d.n ≤ d.n + 1; omega⟩
      · split
        · unfold attrsD
          split
          · exact ⟨Int.le_refl _, by show d.n ≤ d.n + 1; omega⟩
          · split
            · exact ⟨Int.le_refl _, by show d.n ≤ d.n + 1; omega⟩
            · split <;> exact ⟨Int.le_refl _, by show d.n ≤ d.n + 1; omega⟩
        · split
          · unfold dataD
            split
            · exact ⟨Int.le_refl _, by show d.n ≤ d.n + 1; omega⟩
            · split
              · exact ⟨Int.le_refl _, by show d.n ≤ d.n + 1; omega⟩
              · split <;> exact ⟨Int.le_refl _, by show d.n ≤ d.n + 1; omega⟩
          · exact ⟨Int.le_refl _, by show d.n ≤ d.n + 1; omega⟩
theorem focus_n (d : D) (i : Int) : (focusD d i).2.n = d.n := by
  unfold focusD; split <;> rfl

/-! ### A node that has been told, in a block of its own -/
section
variable {w w' : World} {g : Nat} {nd : Nd} {A A2 : Option Addr} {n c n2 k2 : Nat}
end
theorem dep_len {l : List Nd} (h : Tr (fun y => hasL l y = true) (parOf l) (kidsOf l)) {y : Int} (hy : hasL l y = true) : depOf (parOf l) y ≤ l.length := by
  obtain ⟨k, hk⟩ := h.dep y
  have := h.dep_le (L := idsOf l) (fun y hy => has_ids.1 hy) hy hk
  rw [depOf_is hk]
  simpa [idsOf] using this
theorem one_of {l : List Int} (h : l.Nodup) {i j : Nat} (hi : i < l.length) (hj : j < l.length) (hij : i < j) : (l[i] == l[j]) = false := by
  rw [beq_eq_false_iff_ne]
  have := List.pairwise_iff_getElem.1 h i j hi hj hij
  exact this
end Go.Proofs.Ytbdcbjeeaebfeaa.P5

/- The reference's document as it lies in memory; where one stands, its children, its parent, all above it, whether it is inside another. -/
namespace Go.Proofs.Ytbdcbjeeaebfeaa.P5
open Go.RowKit Kd P4

structure Rn where
  va : Sv
  vk : Sv
  nd : Nd
def Rn.rn (r : Rn) : RN := ⟨r.nd.id, r.nd.par, r.nd.tag, r.nd.txt, r.nd.key, r.va, r.vk, r.nd.note⟩
structure Rx where
  v : Value
  n : Int
  R : Nat
  foc : Int
  rs : List Rn
def Rx.l (y : Rx) : List Nd := y.rs.map (·.nd)
def Rx.d (y : Rx) : D := ⟨y.l, y.n, y.R, y.foc⟩
def rfoot (q : Nat) (y : Rx) (k : Nat) : Prop := k = q ∨ y.v.ownBlock = some k ∨ ∃ r ∈ y.rs, r.vk.val.ownBlock = some k
variable {B q : Nat} {y : Rx}
section
variable {w w' : World}
theorem rl_len (y : Rx) : y.l.length = y.rs.length := by simp [Rx.l]
theorem rplace {i : Int} (ha : Asc y.l) (hi : hasL y.l i = true) : ∃ k, ∃ hk : k < y.rs.length, y.rs[k].nd.id = i ∧ find y.l i = some y.rs[k].nd := by
  obtain ⟨z, hz, rfl⟩ := has_iff.1 hi
  obtain ⟨r, hr, rfl⟩ := List.mem_map.1 hz
  obtain ⟨k, hk, rfl⟩ := List.mem_iff_getElem.1 hr
  exact ⟨k, hk, rfl, ha.find hz⟩
end

/-! ### At -/
/-! ### Kids, Parent -/
theorem rtag_at {k : Nat} {i : Int} (ha : Asc y.l) (hk : k < y.rs.length) (hy : y.rs[k].nd.id = i) : tagOf y.l i = y.rs[k].nd.tag ∧ parOf y.l i = y.rs[k].nd.par ∧ kidsOf y.l i = y.rs[k].nd.kids := by
  have hm : y.rs[k].nd ∈ y.l := List.mem_map.2 ⟨y.rs[k], List.getElem_mem hk, rfl⟩
  have hf := ha.find hm
  rw [hy] at hf
  unfold tagOf parOf kidsOf
  rw [hf]
  exact ⟨rfl, rfl, rfl⟩
theorem no_at {l : List Nd} {i : Int} (h : hasL l i = false) : parOf l i = 0 ∧ kidsOf l i = [] := by
  have : find l i = none := by simpa [hasL] using h
  unfold parOf kidsOf
  rw [this]
  exact ⟨rfl, rfl⟩
/-! ### Up, Inside -/
theorem up_step {l : List Nd} {f : Nat} {x : Int} (h : hasL l x = true) : up (hasL l) (parOf l) (f + 1) x = x :: up (hasL l) (parOf l) f (parOf l x) := by rw [up, if_pos h]
theorem up_stop {l : List Nd} {f : Nat} {x : Int} (h : hasL l x = false) : up (hasL l) (parOf l) f x = [] := by
  cases f with
  | zero => rfl
  | succ f => rw [up, if_neg (by rw [h]; simp)]
theorem above_len {l : List Nd} : ∀ (f : Nat) (x : Int), (up (hasL l) (parOf l) f x).length ≤ f
  | 0, _ => by simp [up]
  | f + 1, x => by
    rw [up]
    split
    · simp only [List.length_cons]; have := above_len (l := l) f (parOf l x); omega
    · simp
end Go.Proofs.Ytbdcbjeeaebfeaa.P5

/- The reference: all below one; a node that is set anew. -/
namespace Go.Proofs.Ytbdcbjeeaebfeaa.P5
open Go.RowKit Kd P4
variable {B q : Nat} {y : Rx}

/-! ### All -/
/-! ### set -/
theorem Kind.Own.setE {P : Program} {α : Type} {K : Kind P α} {w : World} {g n c : Nat} {l : List α} (h : K.Own w B (.slice (some ⟨g, 0, none⟩) n c) l) {k : Nat} (hk : k < l.length) (a : α) :
    K.Own (w.setCells g (k * K.size) (K.cs a)) B (.slice (some ⟨g, 0, none⟩) n c) (l.set k a) := by
  rcases h.form with ⟨hv, _⟩ | ⟨g', c', cur, hv, _, hBg, hlt, hh, hnc, hcm, hcs, ht⟩
  · cases hv
  injection hv with e1 e2 e3
  injection e1 with e1
  injection e1 with e1
  subst e1; subst e2; subst e3
  obtain ⟨cur', h1, h2, h3⟩ := heap_setCells g (K.cs a) (k * K.size) w cur _ _ hh
  have hmul : l.length * K.size ≤ c * K.size := Nat.mul_le_mul_right _ hnc
  have hkm : (k + 1) * K.size ≤ l.length * K.size := Nat.mul_le_mul_right _ hk
  have hkm2 : (k + 1) * K.size = k * K.size + K.size := by rw [Nat.add_mul, Nat.one_mul]
  refine Kind.own_mk (by simp) hBg h1 hnc hcm (by rw [h2]; exact hcs) ?_
  apply List.ext_getElem?
  intro i
  have hpos := K.hpos
  rw [List.getElem?_take]
  by_cases hi : i < l.length * K.size
  · rw [if_pos hi, Array.getElem?_toList, h3 i (by omega), K.len]
    have hdm : i / K.size * K.size + i % K.size = i := by rw [Nat.mul_comm]; exact Nat.div_add_mod i K.size
    have hmod : i % K.size < K.size := Nat.mod_lt _ hpos
    have hdiv : i / K.size < l.length := by rw [Nat.div_lt_iff_lt_mul hpos]; exact hi
    have hat := K.cells_at (l.set k a) (i / K.size) (by simpa using hdiv) (i % K.size) hmod
    rw [hdm] at hat
    rw [hat, List.getElem_set]
    by_cases hik : k = i / K.size
    · subst hik
      rw [if_pos rfl, if_pos ⟨by omega, by omega⟩]
      congr 1
      omega
    · rw [if_neg hik]
      have hat2 := K.cells_at l (i / K.size) hdiv (i % K.size) hmod
      rw [hdm] at hat2
      rw [← hat2, ← ht, List.getElem?_take, if_pos hi, if_neg ?_, Array.getElem?_toList]
      rintro ⟨h5, h6⟩
      apply hik
      have h7 : k ≤ i / K.size := by rw [Nat.le_div_iff_mul_le hpos]; exact h5
      have h8 : i / K.size < k + 1 := by rw [Nat.div_lt_iff_lt_mul hpos]; omega
      omega
  · rw [if_neg hi, List.getElem?_eq_none]
    rw [Kind.cells_len, List.length_set]
    omega
end Go.Proofs.Ytbdcbjeeaebfeaa.P5

/- The reference: a node that leaves. -/
namespace Go.Proofs.Ytbdcbjeeaebfeaa.P5
open Go.RowKit Kd P4
variable {B q : Nat} {y : Rx}

/-- a node of the list, as its cells lie -/
structure Lies (w : World) (b o : Nat) (nd : Nd) (A : Option Addr) (n c : Nat) (A2 : Option Addr) (n2 k2 : Nat) : Prop where
  c0 : w.cell? ⟨b, o, none⟩ = some (.int .i64 nd.id)
  c1 : w.cell? ⟨b, o + 1, none⟩ = some (.int .i64 nd.par)
  c2 : w.cell? ⟨b, o + 2, none⟩ = some (.string nd.tag)
  c3 : w.cell? ⟨b, o + 3, none⟩ = some (.string nd.txt)
  c4 : w.cell? ⟨b, o + 4, none⟩ = some (.string nd.key)
  c5 : w.cell? ⟨b, o + 5, none⟩ = some (.slice A n c)
  c6 : w.cell? ⟨b, o + 6, none⟩ = some (.slice A2 n2 k2)
  c7 : w.cell? ⟨b, o + 7, none⟩ = some (.int .i64 nd.note)
theorem less_take {i : Int} {l : List Int} {j : Nat} (hj : j < l.length) : less i (l.take (j + 1)) = if l[j] = i then less i (l.take j) else less i (l.take j) ++ [l[j]] := by
  unfold less
  rw [List.take_succ_eq_append_getElem hj, List.filter_append]
  by_cases e : l[j] = i
  · rw [if_pos e]; simp [e]
  · rw [if_neg e]; simp [e]
theorem two_set {l : List Nd} (h : Asc l) {k k2 : Nat} (hk : k < l.length) (hk2 : k2 < l.length) (hne : k2 ≠ k) (f g : Nd → Nd) (hf : ∀ x, (f x).id = x.id) :
    (l.set k2 (f l[k2])).set k (g l[k]) = upd (upd l l[k2].id f) l[k].id g ∧ Asc (l.set k2 (f l[k2])) := by
  have e1 := h.set_upd hk2 f
  have e2 : (l.set k2 (f l[k2]))[k]'(by simpa using hk) = l[k] := List.getElem_set_ne hne _
  have hA : Asc (l.set k2 (f l[k2])) := asc_of_ids h (by
    unfold idsOf
    rw [List.map_set, hf]
    apply List.ext_getElem
    · simp
    · intro j h1 h2
      rw [List.getElem_set]
      by_cases e : k2 = j
      · subst e; rw [if_pos rfl, List.getElem_map]
      · rw [if_neg e])
  have := hA.set_upd (k := k) (by simpa using hk) g
  rw [e2] at this
  exact ⟨by rw [this, e1], hA⟩
end Go.Proofs.Ytbdcbjeeaebfeaa.P5

/- The reference: two nodes that are the same, are told so. -/
namespace Go.Proofs.Ytbdcbjeeaebfeaa.P5
open Go.RowKit Kd P4

theorem sameA_refl : ∀ l : List P3.At, P3.sameA l l = true
  | [] => rfl
  | a :: l => by rw [P3.sameA, P3.atB_refl, sameA_refl l]; rfl
end Go.Proofs.Ytbdcbjeeaebfeaa.P5

/- Same documents are told so. -/
namespace Go.Proofs.Ytbdcbjeeaebfeaa.P5
open Go.RowKit Kd P4
variable {B p q : Nat} {x : Dx} {y : Rx}
theorem drewN_drewN (w : World) (k j : Nat) : (w.drewN k).drewN j = w.drewN (k + j) := by simp [World.drewN, Nat.add_assoc]
end Go.Proofs.Ytbdcbjeeaebfeaa.P5

/- The reference: focus, note, a new document. -/
namespace Go.Proofs.Ytbdcbjeeaebfeaa.P5
open Go.RowKit Kd P4
variable {B q : Nat} {y : Rx}

theorem set_list (ha : Asc y.l) {k : Nat} {i : Int} (hk : k < y.rs.length) (hy : y.rs[k].nd.id = i) (f : Nd → Nd) {r : Rn} (hr : r.nd = f y.rs[k].nd) : (y.rs.set k r).map (·.nd) = upd y.l i f := by
  rw [List.map_set, hr]
  have := ha.set_upd (k := k) (by rw [rl_len]; exact hk) f
  simp only [Rx.l, List.getElem_map] at this
  rw [this, hy]
  rfl

/-! ### SetFocus -/
/-! ### Note -/
/-! ### New -/
def nd1 : Nd := newN 1 ⟨#[114, 111, 111, 116]⟩ ⟨#[]⟩ ⟨#[]⟩
end Go.Proofs.Ytbdcbjeeaebfeaa.P5

/- The reference: a change as it lies in memory. -/
namespace Go.Proofs.Ytbdcbjeeaebfeaa.P5
open Go.RowKit Kd P4
section
variable {w w' : World} {g : Nat} {r : Rc} {A : Option Addr} {n c : Nat}
end
end Go.Proofs.Ytbdcbjeeaebfeaa.P5

/- The reference's put: what it refuses first. -/
namespace Go.Proofs.Ytbdcbjeeaebfeaa.P5
open Go.RowKit Kd P4
variable {B q : Nat} {y : Rx}
end Go.Proofs.Ytbdcbjeeaebfeaa.P5

/- The reference's put: what it refuses last. -/
namespace Go.Proofs.Ytbdcbjeeaebfeaa.P5
open Go.RowKit Kd P4
variable {B q : Nat} {y : Rx}
end Go.Proofs.Ytbdcbjeeaebfeaa.P5

/- The reference's put: all that it refuses. -/
namespace Go.Proofs.Ytbdcbjeeaebfeaa.P5
open Go.RowKit Kd P4
variable {B q : Nat} {y : Rx}
end Go.Proofs.Ytbdcbjeeaebfeaa.P5

/- The reference's put: what its done way stands on. -/
namespace Go.Proofs.Ytbdcbjeeaebfeaa.P5
open Go.RowKit Kd P4
variable {B q : Nat} {y : Rx}
section
variable {w w' w2 : World} {y' y2 : Rx}
end
def insF (i b : Int) (l : List Int) : List Int := l.flatMap fun c => if c = b then [i, c] else [c]
theorem insF_take {i b : Int} {l : List Int} {j : Nat} (hj : j < l.length) : insF i b (l.take (j + 1)) = insF i b (l.take j) ++ if l[j] = b then [i, l[j]] else [l[j]] := by
  unfold insF
  rw [List.take_succ_eq_append_getElem hj, List.flatMap_append]
  simp
theorem insF_len (i b : Int) (l : List Int) : (insF i b l).length ≤ 2 * l.length := by
  unfold insF
  induction l with
  | nil => simp
  | cons a l ih =>
    rw [List.flatMap_cons, List.length_append, List.length_cons]
    have e : ∀ x : List Int, (x = [i, a] ∨ x = [a]) → x.length ≤ 2 := fun x hx => by rcases hx with rfl | rfl <;> simp
    have := e (if a = b then [i, a] else [a]) (by split <;> simp)
    omega
theorem insF_none {i b : Int} {l : List Int} (h : b ∉ l) : insF i b l = l := by
  unfold insF
  induction l with
  | nil => rfl
  | cons a l ih =>
    rw [List.mem_cons, not_or] at h
    rw [List.flatMap_cons, if_neg (Ne.symm h.1), ih h.2]
    rfl
theorem insF_some {i b : Int} {l : List Int} (h : b ≠ 0) : insF i b l = insA i b l := by unfold insA; rw [if_neg h]; rfl
theorem insF_end {i : Int} {l : List Int} (h : (0 : Int) ∉ l) : insF i 0 l ++ [i] = insA i 0 l := by rw [insF_none h]; unfold insA; rw [if_pos rfl]
theorem leave_kids_len {d : D} (h : WF d) (i p : Int) : (kidsOf (leaveL d.l i) p).length ≤ 1000 ∧ (0 : Int) ∉ kidsOf (leaveL d.l i) p := by
  have ht := leave_tr (i := i) h.tr
  refine ⟨?_, fun h0 => ?_⟩
  · have h1 := nodup_len (kidsOf (leaveL d.l i) p) (idsOf (leaveL d.l i)) (ht.nod p) (fun c hc => has_ids.1 (ht.kid p c hc).2.1)
    rw [leave_ids] at h1
    have := h.len200
    simp only [idsOf, List.length_map] at h1
    omega
  · have h1 := (ht.kid p 0 h0).2.1
    rw [leave_has, h.no0] at h1
    cases h1
end Go.Proofs.Ytbdcbjeeaebfeaa.P5

/- The reference's put: it is done. -/
namespace Go.Proofs.Ytbdcbjeeaebfeaa.P5
open Go.RowKit Kd P4
variable {B q : Nat} {y : Rx}
end Go.Proofs.Ytbdcbjeeaebfeaa.P5

/- The reference's put: it is done, ahead of another one. -/
namespace Go.Proofs.Ytbdcbjeeaebfeaa.P5
open Go.RowKit Kd P4
variable {B q : Nat} {y : Rx}
end Go.Proofs.Ytbdcbjeeaebfeaa.P5

/- The reference: a node goes, and all below it. -/
namespace Go.Proofs.Ytbdcbjeeaebfeaa.P5
open Go.RowKit Kd P4
variable {B q : Nat} {y : Rx}
/-- the nodes that are not in a list of identities -/
def outN (s : List Int) (l : List Rn) : List Rn := l.filter fun r => !decide (r.nd.id ∈ s)
theorem outN_nd (s : List Int) (l : List Rn) : (outN s l).map (·.nd) = outA s (l.map (·.nd)) := by
  unfold outN outA
  rw [List.filter_map]
  rfl
theorem outN_take {s : List Int} {l : List Rn} {j : Nat} (hj : j < l.length) : outN s (l.take (j + 1)) = if l[j].nd.id ∈ s then outN s (l.take j) else outN s (l.take j) ++ [l[j]] := by
  unfold outN
  rw [List.take_succ_eq_append_getElem hj, List.filter_append]
  by_cases e : l[j].nd.id ∈ s <;> simp [e]
theorem outN_mem {s : List Int} {l : List Rn} {r : Rn} (h : r ∈ outN s l) : r ∈ l := (List.mem_filter.1 h).1
theorem outN_len (s : List Int) (l : List Rn) : (outN s l).length ≤ l.length := List.length_filter_le _ _
theorem mem_take_succ {l : List Int} {x : Int} {j : Nat} (hj : j < l.length) : decide (x ∈ l.take (j + 1)) = (decide (x ∈ l.take j) || l[j] == x) := by
  rw [List.take_succ_eq_append_getElem hj, Bool.eq_iff_iff, Bool.or_eq_true, decide_eq_true_eq, decide_eq_true_eq, List.mem_append, List.mem_singleton, beq_iff_eq]
  exact or_congr Iff.rfl eq_comm
theorem cell_same {w w' : World} {g : Nat} (e : w'.heap[g]? = w.heap[g]?) (o : Nat) : w'.cell? ⟨g, o, none⟩ = w.cell? ⟨g, o, none⟩ := by simp [World.cell?, e]
def focAt (bl : List Int) (foc : Int) (j : Nat) : Int := if foc ∈ bl.take j then 0 else foc
theorem focAt_succ {bl : List Int} {foc : Int} {j : Nat} (hj : j < bl.length) : focAt bl foc (j + 1) = if focAt bl foc j = bl[j] then 0 else focAt bl foc j := by
  unfold focAt
  rw [List.take_succ_eq_append_getElem hj]
  by_cases e : foc ∈ bl.take j
  · rw [if_pos (List.mem_append.2 (.inl e)), if_pos e]
    split <;> rfl
  · simp only [List.mem_append, e, false_or, List.mem_singleton, if_false]
end Go.Proofs.Ytbdcbjeeaebfeaa.P5

/- The reference's Apply: what is no change; a text's data. -/
namespace Go.Proofs.Ytbdcbjeeaebfeaa.P5
open Go.RowKit Kd P4
variable {B q : Nat} {y : Rx}
end Go.Proofs.Ytbdcbjeeaebfeaa.P5
