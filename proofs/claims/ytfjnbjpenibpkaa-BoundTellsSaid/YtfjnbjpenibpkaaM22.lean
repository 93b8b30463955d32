/- slices.Insert of one integer, laid by the shelf: at whatever place, with room or without. -/
import Derived.Shelf.Spec.SlicesInsertGrow
import Derived.Deep.RegionHeld3
import Derived.Lib.IfaceEq
import Derived.WideLaws
import Derived.Test.YtfjnbjpenibpkaaM4
import Derived.Test.YtfjnbjpenibpkaaM5
import Derived.Test.YtfjnbjpenibpkaaM8
import Derived.Test.YtfjnbjpenibpkaaM20
set_option linter.unusedVariables false
set_option linter.unusedSimpArgs false
set_option linter.unusedVariables false
set_option linter.unusedSimpArgs false
namespace Go.Proofs.Ytfjnbjpenibpkaa.P5
open Go.RowKit Kd P4

theorem ins_row {c2 : Array Value} {C : List Value} {n i : Nat} {u : Value} (hC : C.length = n) (hi : i ≤ n) (hs : n + 1 ≤ c2.size) (h : ∀ k, k < n + 1 → c2[k]? = if k < i then C[k]? else if k = i then some u else C[k - 1]?) :
    c2.toList.take (n + 1) = C.take i ++ u :: C.drop i := by
  apply List.ext_getElem?
  intro k
  rw [List.getElem?_take]
  have hti : (C.take i).length = i := by rw [List.length_take]; omega
  by_cases hk : k < n + 1
  · rw [if_pos hk, Array.getElem?_toList, h k hk]
    by_cases h1 : k < i
    · rw [if_pos h1, List.getElem?_append_left (by omega), List.getElem?_take, if_pos h1]
    · rw [if_neg h1, List.getElem?_append_right (by omega), hti]
      by_cases h2 : k = i
      · subst h2; simp
      · obtain ⟨m, rfl⟩ : ∃ m, k = i + (m + 1) := ⟨k - i - 1, by omega⟩
        rw [if_neg h2, show i + (m + 1) - i = m + 1 by omega, List.getElem?_cons_succ, List.getElem?_drop, show i + (m + 1) - 1 = i + m by omega]
  · rw [if_neg hk, List.getElem?_eq_none]
    simp only [List.length_append, List.length_cons, List.length_drop, hti]
    omega
end Go.Proofs.Ytfjnbjpenibpkaa.P5

/- What the quick calls on a document answer: who is there, a node, the identities, room, the focus; and what a focus, a note, attributes, a text that are set leave. -/
set_option linter.unusedVariables false
set_option linter.unusedSimpArgs false
namespace Go.Proofs.Ytfjnbjpenibpkaa.P5
open Go.RowKit Kd P4
variable {B p : Nat} {x : Dx}

/-! ### A node that is told -/
theorem setOne {a w : World} {g i : Nat} {u : Value} (h : But (fun k => k = g) a w) : But (fun k => k = g) a (w.setCell ⟨g, i, none⟩ u) := But.setCell h (fun _ => rfl) u
theorem one_end {w w2 wf : World} (hB : Below w.heap.size w w2) (hb : But (fun k => k = w.heap.size) w2 wf) : Below w.heap.size w wf := hB.trans (hb.to_below (fun i _ hi => by omega) hB.size)
end Go.Proofs.Ytfjnbjpenibpkaa.P5

/- An error's number, as a value. No condition. -/
set_option linter.unusedVariables false
set_option linter.unusedSimpArgs false
namespace Go.Proofs.Ytfjnbjpenibpkaa.P5
open Go.RowKit Kd

/-- an error's number, as a value -/
def errV (c : Int) : Value := if c = 0 then .nilIface else .iface 47 (.int .i64 c)
end Go.Proofs.Ytfjnbjpenibpkaa.P5

/- A document's own block, its slots, its identities turned: what it is then. No condition. -/
set_option linter.unusedVariables false
set_option linter.unusedSimpArgs false
namespace Go.Proofs.Ytfjnbjpenibpkaa.P5
open Go.RowKit Kd P4
variable {B p : Nat} {x : Dx}

theorem idsl (x : Dx) : idsOf (x.rs.map (·.nd)) = idsOf x.l := rfl
end Go.Proofs.Ytfjnbjpenibpkaa.P5

/- What SetFocus, Note, setText, setAttrs answer and leave; whether one is inside another; a node that leaves. -/
set_option linter.unusedVariables false
set_option linter.unusedSimpArgs false
namespace Go.Proofs.Ytfjnbjpenibpkaa.P5
open Go.RowKit Kd P4
variable {B p : Nat} {x : Dx}

end Go.Proofs.Ytfjnbjpenibpkaa.P5

/- What setAttrs answers and leaves; whether one is inside another; a node that leaves. -/
set_option linter.unusedVariables false
set_option linter.unusedSimpArgs false
namespace Go.Proofs.Ytfjnbjpenibpkaa.P5
open Go.RowKit Kd P4
variable {B p : Nat} {x : Dx}

/-- attributes that are handed in -/
structure ArgA (w : World) (A : Option Addr) (n c : Nat) (l : List P3.At) : Prop where
  len : l.length = n
  cap : n ≤ c
  nil : A = none → c = 0
  few : n ≤ 1000000
  wf : P3.Wf l
  holds : kA.Holds w w.heap.size A l
theorem ArgA.below {w w' : World} {A : Option Addr} {n c : Nat} {l : List P3.At} (h : ArgA w A n c l) (hb : Below w.heap.size w w') : ArgA w' A n c l := ⟨h.len, h.cap, h.nil, h.few, h.wf, h.holds.on hb⟩

/-! ### inside -/
open Classical in
noncomputable def depOf (P : Int → Int) (y : Int) : Nat := if h : ∃ k, Dep P y k then Classical.choose h else 0
theorem dep_uniq {P : Int → Int} {y : Int} {i j : Nat} (hi : Dep P y i) (hj : Dep P y j) : i = j := by
  rcases Nat.lt_trichotomy i j with h | h | h
  · exact absurd hi.1 (hj.2 i h)
  · exact h
  · exact absurd hj.1 (hi.2 j h)
theorem depOf_is {P : Int → Int} {y : Int} {k : Nat} (h : Dep P y k) : depOf P y = k := by
  have hx : ∃ k, Dep P y k := ⟨k, h⟩
  unfold depOf
  rw [dif_pos hx]
  exact dep_uniq (Classical.choose_spec hx) h
theorem depOf_lt {l : List Nd} (h : Tr (fun y => hasL l y = true) (parOf l) (kidsOf l)) {y : Int} (hy : y ≠ 0) : depOf (parOf l) (parOf l y) < depOf (parOf l) y := by
  obtain ⟨k, hk⟩ := h.dep y
  rw [depOf_is hk]
  cases k with
  | zero => exact absurd hk.1 hy
  | succ k =>
    have : Dep (parOf l) (parOf l y) k := ⟨hk.1, fun i hi => hk.2 (i + 1) (by omega)⟩
    rw [depOf_is this]
    omega
theorem inside_yes {l : List Nd} (h : Tr (fun y => hasL l y = true) (parOf l) (kidsOf l)) {a b : Int} {j : Nat} (ha : hasL l a = true) (hb : b ≠ 0) (hj : it (parOf l) j a = b) : inside l a b = true := by
  obtain ⟨k, hk⟩ := h.dep a
  have hkl := h.dep_le (L := idsOf l) (fun y hy => has_ids.1 hy) ha hk
  have hjk : j < k := by
    rcases Nat.lt_or_ge j k with hlt | hge
    · exact hlt
    · exact absurd (hj.symm.trans (h.it_ge hk.1 hge)) hb
  unfold inside aboveL
  rw [decide_eq_true_iff, ← hj]
  simp only [idsOf, List.length_map] at hkl
  exact h.it_up _ a k j ha hk hjk (by omega)
theorem inside_no {l : List Nd} (h : Tr (fun y => hasL l y = true) (parOf l) (kidsOf l)) {a b : Int} {j : Nat} (hj : it (parOf l) j a = 0) (hn : ∀ m, m < j → it (parOf l) m a ≠ b) : inside l a b = false := by
  unfold inside aboveL
  rw [decide_eq_false_iff_not]
  intro hm
  obtain ⟨m, hm1, hm2⟩ := up_it _ _ _ hm
  rcases Nat.lt_or_ge m j with hlt | hge
  · exact hn m hlt hm1
  · rw [h.it_ge hj hge] at hm1
    subst hm1
    exact h.z hm2
end Go.Proofs.Ytfjnbjpenibpkaa.P5

/- A node that leaves; a node that is put, or the error. -/
set_option linter.unusedVariables false
set_option linter.unusedSimpArgs false
namespace Go.Proofs.Ytfjnbjpenibpkaa.P5
open Go.RowKit Kd P4
variable {B p : Nat} {x : Dx}

theorem put_slots {k : Nat} (hk : k < x.rs.length) {r : Rw} (hb : r.b = x.rs[k].b) (hid : r.nd.id = x.rs[k].nd.id) : (x.put k r).rs.map slotOf = x.rs.map slotOf := by
  show (x.rs.set k r).map slotOf = x.rs.map slotOf
  apply List.ext_getElem
  · simp
  · intro j h1 h2
    simp only [List.getElem_map, List.getElem_set]
    split
    · rename_i e; subst e; simp [slotOf, hb, hid]
    · rfl
theorem put_other {k m : Nat} (hk : k < x.rs.length) {r : Rw} (hne : m ≠ k) : ∃ h1 : k < (x.put m r).rs.length, (x.put m r).rs[k] = x.rs[k] := by
  refine ⟨by show k < (x.rs.set m r).length; simpa using hk, ?_⟩
  show (x.rs.set m r)[k]'(by simpa using hk) = x.rs[k]
  exact List.getElem_set_ne hne _
/-- one's slots stand as before: so does each one's block -/
theorem slots_at {rs rs' : List Rw} (h : rs'.map slotOf = rs.map slotOf) {k : Nat} (hk : k < rs.length) : ∃ h1 : k < rs'.length, rs'[k].nd.id = rs[k].nd.id ∧ rs'[k].b = rs[k].b := by
  have hl : rs'.length = rs.length := by simpa using congrArg List.length h
  have h1 : k < rs'.length := by omega
  refine ⟨h1, ?_⟩
  have e := congrArg (fun l => l[k]?) h
  simp only [List.getElem?_map, List.getElem?_eq_getElem hk, List.getElem?_eq_getElem h1, Option.map_some, Option.some.injEq] at e
  unfold slotOf at e
  injection e with e1 e2
  exact ⟨e1, e2⟩

end Go.Proofs.Ytfjnbjpenibpkaa.P5

/- A node that is put: each error, or where it stands then. -/
set_option linter.unusedVariables false
set_option linter.unusedSimpArgs false
namespace Go.Proofs.Ytfjnbjpenibpkaa.P5
open Go.RowKit Kd P4
variable {B p : Nat} {x : Dx}

theorem void_at (t : ByteArray) {r : Bool} (w : World) (h : P1.voidB t.data.toList = r) : Calls Try.prog 29 #[.string t] w fun e w' => e = .returned (.bool r) ∧ w = w' := by
  subst h; exact P1.void_any t w
end Go.Proofs.Ytfjnbjpenibpkaa.P5

/- A node that is put, and stands; put as a whole. -/
set_option linter.unusedVariables false
set_option linter.unusedSimpArgs false
namespace Go.Proofs.Ytfjnbjpenibpkaa.P5
open Go.RowKit Kd P4
variable {B p : Nat} {x : Dx}

theorem ins_end (i : Int) (l : List Int) : l.take l.length ++ i :: l.drop l.length = insA i 0 l := by
  unfold insA; rw [if_pos rfl]; simp
theorem ins_at : ∀ {l : List Int} {b : Int} (i : Int), b ∈ l → l.Nodup → b ≠ 0 → l.take (idxA l b) ++ i :: l.drop (idxA l b) = insA i b l
  | [], _, _, h, _, _ => absurd h (by simp)
  | a :: r, b, i, h, hn, h0 => by
    obtain ⟨h1, h2⟩ := List.nodup_cons.1 hn
    unfold insA
    rw [if_neg h0, List.flatMap_cons]
    by_cases e : b = a
    · subst e
      have : r.flatMap (fun c => if c = b then [i, c] else [c]) = r := by
        have : ∀ m : List Int, b ∉ m → m.flatMap (fun c => if c = b then [i, c] else [c]) = m := by
          intro m
          induction m with
          | nil => intro _; rfl
          | cons c m ih =>
            intro hm
            simp only [List.mem_cons, not_or] at hm
            rw [List.flatMap_cons, if_neg (Ne.symm hm.1), ih hm.2]
            rfl
        exact this r h1
      rw [this]
      simp [idxA]
    · have ih := ins_at i ((List.mem_cons.1 h).resolve_left e) h2 h0
      unfold insA at ih
      rw [if_neg h0] at ih
      rw [if_neg (Ne.symm e), ← ih]
      simp [idxA, e]
theorem beq_i (a b : Int) : (a == b) = decide (a = b) := rfl
end Go.Proofs.Ytfjnbjpenibpkaa.P5

/- Errors told apart; the law's Code and Pick. No condition. -/
set_option linter.unusedVariables false
set_option linter.unusedSimpArgs false
namespace Go.Proofs.Ytfjnbjpenibpkaa.P4
open Go.RowKit Kd

theorem err_eql (a b : Int) (w : World) : (binOp .eql 27 (.iface 47 (.int .i64 a)) (.iface 47 (.int .i64 b))).run Try.prog w = .ok (.bool (a == b)) w :=
  Lib.run_eql_iface_int w a b Try.underlying27 (by kernel_rfl) Try.underlying47
theorem err_eql_nil (x : Value) (w : World) : (binOp .eql 27 (.iface 47 x) .nilIface).run Try.prog w = .ok (.bool false) w := run_eql_held_nil _ _ _ _ (by kernel_rfl)
theorem err_neq_nil (x : Value) (w : World) : (binOp .neq 27 (.iface 47 x) .nilIface).run Try.prog w = .ok (.bool true) w := run_neq_held_nil _ _ _ _ (by kernel_rfl)
theorem nil_eql_nil (w : World) : (binOp .eql 27 .nilIface .nilIface).run Try.prog w = .ok (.bool true) w := Go.run_eql_nil_nil _ _ (by kernel_rfl)
theorem nil_neq_nil (w : World) : (binOp .neq 27 .nilIface .nilIface).run Try.prog w = .ok (.bool false) w := Go.run_neq_nil_nil _ _ (by kernel_rfl)

end Go.Proofs.Ytfjnbjpenibpkaa.P4

/- A node more, or the error; whether one may be made; a new document. -/
set_option linter.unusedVariables false
set_option linter.unusedSimpArgs false
namespace Go.Proofs.Ytfjnbjpenibpkaa.P5
open Go.RowKit Kd P4
variable {B p : Nat} {x : Dx}

theorem heap_top {w : World} {o : Obj} {g : Nat} (h : g = w.heap.size) : (w.alloc o).heap[g]? = some o := by subst h; exact heap_alloc_new w o
theorem heap_drew {w : World} {o : Obj} {g : Nat} (h : w.heap[g]? = some o) : w.drew.heap[g]? = some o := h

/-! ### add -/
end Go.Proofs.Ytfjnbjpenibpkaa.P5
