/- An error's number, as a value. No condition. -/
import Derived.Lib.IfaceEq
import Derived.WideLaws
import Derived.Test.YthdgaoifbejpjaaM3
import Derived.Test.YthdgaoifbejpjaaM4
import Derived.Test.YthdgaoifbejpjaaM8
set_option linter.unusedVariables false
set_option linter.unusedSimpArgs false
set_option linter.unusedVariables false
set_option linter.unusedSimpArgs false
namespace Go.Proofs.Ythdgaoifbejpjaa.P5
open Go.RowKit Kd

/-- an error's number, as a value -/
def errV (c : Int) : Value := if c = 0 then .nilIface else .iface 88 (.int .i64 c)
end Go.Proofs.Ythdgaoifbejpjaa.P5

/- A document's own block, its slots, its identities turned: what it is then. No condition. -/
set_option linter.unusedVariables false
set_option linter.unusedSimpArgs false
namespace Go.Proofs.Ythdgaoifbejpjaa.P5
open Go.RowKit Kd P4
variable {B p : Nat} {x : Dx}

theorem idsl (x : Dx) : idsOf (x.rs.map (·.nd)) = idsOf x.l := rfl
theorem own_not {w : World} {C g : Nat} {v : Value} {l : List Int} {cur : Array Value} {t : TypeId} {fr : Nat × Nat} (h : kI.Own w C v l) (hg : w.heap[g]? = some (.cells cur t fr)) (ht : t ≠ 3) : some g ≠ v.ownBlock := fun e => by
  obtain ⟨d, hd⟩ := h.ty e.symm
  exact heap_ne hg hd ht rfl
end Go.Proofs.Ythdgaoifbejpjaa.P5

/- What SetFocus, Note, setText, setAttrs answer and leave; whether one is inside another; a node that leaves. -/
set_option linter.unusedVariables false
set_option linter.unusedSimpArgs false
namespace Go.Proofs.Ythdgaoifbejpjaa.P5
open Go.RowKit Kd P4
variable {B p : Nat} {x : Dx}

end Go.Proofs.Ythdgaoifbejpjaa.P5

/- What setAttrs answers and leaves; whether one is inside another; a node that leaves. -/
set_option linter.unusedVariables false
set_option linter.unusedSimpArgs false
namespace Go.Proofs.Ythdgaoifbejpjaa.P5
open Go.RowKit Kd P4
variable {B p : Nat} {x : Dx}

/-- attributes that are handed in -/
structure ArgA (w : World) (A : Option Addr) (n c : Nat) (l : List P3.At) : Prop where
  len : l.length = n
  cap : n ≤ c
  nil : A = none → c = 0
  few : n ≤ 1000000
  wf : P3.Wf l
  holds : kA.Holds w w.heap.size A l
theorem ArgA.below {w w' : World} {A : Option Addr} {n c : Nat} {l : List P3.At} (h : ArgA w A n c l) (hb : Below w.heap.size w w') : ArgA w' A n c l := ⟨h.len, h.cap, h.nil, h.few, h.wf, h.holds.on hb⟩

/-! ### inside -/
open Classical in
noncomputable def depOf (P : Int → Int) (y : Int) : Nat := if h : ∃ k, Dep P y k then Classical.choose h else 0
theorem dep_uniq {P : Int → Int} {y : Int} {i j : Nat} (hi : Dep P y i) (hj : Dep P y j) : i = j := by
  rcases Nat.lt_trichotomy i j with h | h | h
  · exact absurd hi.1 (hj.2 i h)
  · exact h
  · exact absurd hj.1 (hi.2 j h)
theorem depOf_is {P : Int → Int} {y : Int} {k : Nat} (h : Dep P y k) : depOf P y = k := by
  have hx : ∃ k, Dep P y k := ⟨k, h⟩
  unfold depOf
  rw [dif_pos hx]
  exact dep_uniq (Classical.choose_spec hx) h
theorem depOf_lt {l : List Nd} (h : Tr (fun y => hasL l y = true) (parOf l) (kidsOf l)) {y : Int} (hy : y ≠ 0) : depOf (parOf l) (parOf l y) < depOf (parOf l) y := by
  obtain ⟨k, hk⟩ := h.dep y
  rw [depOf_is hk]
  cases k with
  | zero => exact absurd hk.1 hy
  | succ k =>
    have : Dep (parOf l) (parOf l y) k := ⟨hk.1, fun i hi => hk.2 (i + 1) (by omega)⟩
    rw [depOf_is this]
    omega
theorem inside_yes {l : List Nd} (h : Tr (fun y => hasL l y = true) (parOf l) (kidsOf l)) {a b : Int} {j : Nat} (ha : hasL l a = true) (hb : b ≠ 0) (hj : it (parOf l) j a = b) : inside l a b = true := by
  obtain ⟨k, hk⟩ := h.dep a
  have hkl := h.dep_le (L := idsOf l) (fun y hy => has_ids.1 hy) ha hk
  have hjk : j < k := by
    rcases Nat.lt_or_ge j k with hlt | hge
    · exact hlt
    · exact absurd (hj.symm.trans (h.it_ge hk.1 hge)) hb
  unfold inside aboveL
  rw [decide_eq_true_iff, ← hj]
  simp only [idsOf, List.length_map] at hkl
  exact h.it_up _ a k j ha hk hjk (by omega)
theorem inside_no {l : List Nd} (h : Tr (fun y => hasL l y = true) (parOf l) (kidsOf l)) {a b : Int} {j : Nat} (hj : it (parOf l) j a = 0) (hn : ∀ m, m < j → it (parOf l) m a ≠ b) : inside l a b = false := by
  unfold inside aboveL
  rw [decide_eq_false_iff_not]
  intro hm
  obtain ⟨m, hm1, hm2⟩ := up_it _ _ _ hm
  rcases Nat.lt_or_ge m j with hlt | hge
  · exact hn m hlt hm1
  · rw [h.it_ge hj hge] at hm1
    subst hm1
    exact h.z hm2
end Go.Proofs.Ythdgaoifbejpjaa.P5

/- A node that leaves; a node that is put, or the error. -/
set_option linter.unusedVariables false
set_option linter.unusedSimpArgs false
namespace Go.Proofs.Ythdgaoifbejpjaa.P5
open Go.RowKit Kd P4
variable {B p : Nat} {x : Dx}

theorem put_slots {k : Nat} (hk : k < x.rs.length) {r : Rw} (hb : r.b = x.rs[k].b) (hid : r.nd.id = x.rs[k].nd.id) : (x.put k r).rs.map slotOf = x.rs.map slotOf := by
  show (x.rs.set k r).map slotOf = x.rs.map slotOf
  apply List.ext_getElem
  · simp
  · intro j h1 h2
    simp only [List.getElem_map, List.getElem_set]
    split
    · rename_i e; subst e; simp [slotOf, hb, hid]
    · rfl
theorem put_other {k m : Nat} (hk : k < x.rs.length) {r : Rw} (hne : m ≠ k) : ∃ h1 : k < (x.put m r).rs.length, (x.put m r).rs[k] = x.rs[k] := by
  refine ⟨by show k < (x.rs.set m r).length; simpa using hk, ?_⟩
  show (x.rs.set m r)[k]'(by simpa using hk) = x.rs[k]
  exact List.getElem_set_ne hne _
/-- one's slots stand as before: so does each one's block -/
theorem slots_at {rs rs' : List Rw} (h : rs'.map slotOf = rs.map slotOf) {k : Nat} (hk : k < rs.length) : ∃ h1 : k < rs'.length, rs'[k].nd.id = rs[k].nd.id ∧ rs'[k].b = rs[k].b := by
  have hl : rs'.length = rs.length := by simpa using congrArg List.length h
  have h1 : k < rs'.length := by omega
  refine ⟨h1, ?_⟩
  have e := congrArg (fun l => l[k]?) h
  simp only [List.getElem?_map, List.getElem?_eq_getElem hk, List.getElem?_eq_getElem h1, Option.map_some, Option.some.injEq] at e
  unfold slotOf at e
  injection e with e1 e2
  exact ⟨e1, e2⟩

end Go.Proofs.Ythdgaoifbejpjaa.P5

/- A node that is put: each error, or where it stands then. -/
set_option linter.unusedVariables false
set_option linter.unusedSimpArgs false
namespace Go.Proofs.Ythdgaoifbejpjaa.P5
open Go.RowKit Kd P4
variable {B p : Nat} {x : Dx}

theorem void_at (t : ByteArray) {r : Bool} (w : World) (h : P1.voidB t.data.toList = r) : Calls Try.prog 68 #[.string t] w fun e w' => e = .returned (.bool r) ∧ w = w' := by
  subst h; exact P1.void_any t w
end Go.Proofs.Ythdgaoifbejpjaa.P5

/- A node that is put, and stands; put as a whole. -/
set_option linter.unusedVariables false
set_option linter.unusedSimpArgs false
namespace Go.Proofs.Ythdgaoifbejpjaa.P5
open Go.RowKit Kd P4
variable {B p : Nat} {x : Dx}

theorem ins_end (i : Int) (l : List Int) : l.take l.length ++ i :: l.drop l.length = insA i 0 l := by
  unfold insA; rw [if_pos rfl]; simp
theorem ins_at : ∀ {l : List Int} {b : Int} (i : Int), b ∈ l → l.Nodup → b ≠ 0 → l.take (idxA l b) ++ i :: l.drop (idxA l b) = insA i b l
  | [], _, _, h, _, _ => absurd h (by simp)
  | a :: r, b, i, h, hn, h0 => by
    obtain ⟨h1, h2⟩ := List.nodup_cons.1 hn
    unfold insA
    rw [if_neg h0, List.flatMap_cons]
    by_cases e : b = a
    · subst e
      have : r.flatMap (fun c => if c = b then [i, c] else [c]) = r := by
        have : ∀ m : List Int, b ∉ m → m.flatMap (fun c => if c = b then [i, c] else [c]) = m := by
          intro m
          induction m with
          | nil => intro _; rfl
          | cons c m ih =>
            intro hm
            simp only [List.mem_cons, not_or] at hm
            rw [List.flatMap_cons, if_neg (Ne.symm hm.1), ih hm.2]
            rfl
        exact this r h1
      rw [this]
      simp [idxA]
    · have ih := ins_at i ((List.mem_cons.1 h).resolve_left e) h2 h0
      unfold insA at ih
      rw [if_neg h0] at ih
      rw [if_neg (Ne.symm e), ← ih]
      simp [idxA, e]
theorem beq_i (a b : Int) : (a == b) = decide (a = b) := rfl
end Go.Proofs.Ythdgaoifbejpjaa.P5

/- Errors told apart; the law's Code and Pick. No condition. -/
set_option linter.unusedVariables false
set_option linter.unusedSimpArgs false
namespace Go.Proofs.Ythdgaoifbejpjaa.P4
open Go.RowKit Kd

theorem err_eql (a b : Int) (w : World) : (binOp .eql 45 (.iface 88 (.int .i64 a)) (.iface 88 (.int .i64 b))).run Try.prog w = .ok (.bool (a == b)) w :=
  Lib.run_eql_iface_int w a b Try.underlying45 (by kernel_rfl) Try.underlying88
theorem err_eql_nil (x : Value) (w : World) : (binOp .eql 45 (.iface 88 x) .nilIface).run Try.prog w = .ok (.bool false) w := run_eql_held_nil _ _ _ _ (by kernel_rfl)
theorem err_neq_nil (x : Value) (w : World) : (binOp .neq 45 (.iface 88 x) .nilIface).run Try.prog w = .ok (.bool true) w := run_neq_held_nil _ _ _ _ (by kernel_rfl)
theorem nil_eql_nil (w : World) : (binOp .eql 45 .nilIface .nilIface).run Try.prog w = .ok (.bool true) w := Go.run_eql_nil_nil _ _ (by kernel_rfl)
theorem nil_neq_nil (w : World) : (binOp .neq 45 .nilIface .nilIface).run Try.prog w = .ok (.bool false) w := Go.run_neq_nil_nil _ _ (by kernel_rfl)

end Go.Proofs.Ythdgaoifbejpjaa.P4

/- A node more, or the error; whether one may be made; a new document. -/
set_option linter.unusedVariables false
set_option linter.unusedSimpArgs false
namespace Go.Proofs.Ythdgaoifbejpjaa.P5
open Go.RowKit Kd P4
variable {B p : Nat} {x : Dx}

theorem heap_top {w : World} {o : Obj} {g : Nat} (h : g = w.heap.size) : (w.alloc o).heap[g]? = some o := by subst h; exact heap_alloc_new w o
theorem heap_drew {w : World} {o : Obj} {g : Nat} (h : w.heap[g]? = some o) : w.drew.heap[g]? = some o := h

/-! ### add -/
end Go.Proofs.Ythdgaoifbejpjaa.P5

/- Whether a node may be made; a node that is made, or the error; a new document. -/
set_option linter.unusedVariables false
set_option linter.unusedSimpArgs false
namespace Go.Proofs.Ythdgaoifbejpjaa.P5
open Go.RowKit Kd P4
variable {B p : Nat} {x : Dx}

theorem empty_iff (s : ByteArray) : s.toList.isEmpty = true ↔ s.toList = [] := List.isEmpty_iff
/-! ### create -/
/-! ### New -/
end Go.Proofs.Ythdgaoifbejpjaa.P5

/- A node that is let go, and all below it. -/
set_option linter.unusedVariables false
set_option linter.unusedSimpArgs false
namespace Go.Proofs.Ythdgaoifbejpjaa.P5
open Go.RowKit Kd P4
variable {B p : Nat} {x : Dx}

def outR (s : List Int) (rs : List Rw) : List Rw := rs.filter fun r => !decide (r.nd.id ∈ s)
theorem outR_nd (s : List Int) (rs : List Rw) : (outR s rs).map (·.nd) = outA s (rs.map (·.nd)) := by
  unfold outR outA
  rw [List.filter_map]
  rfl
theorem outR_outR (s t : List Int) (rs : List Rw) : outR t (outR s rs) = outR (s ++ t) rs := by
  unfold outR
  rw [List.filter_filter]
  apply List.filter_congr
  intro r _
  by_cases h1 : r.nd.id ∈ s <;> by_cases h2 : r.nd.id ∈ t <;> simp [h1, h2]
theorem outR_nil (rs : List Rw) : outR [] rs = rs := by
  unfold outR
  rw [List.filter_eq_self]
  intro r _; simp
theorem outR_congr {s t : List Int} (h : ∀ c, c ∈ s ↔ c ∈ t) (rs : List Rw) : outR s rs = outR t rs := by
  unfold outR
  apply List.filter_congr
  intro r _
  simp [h]
theorem mem_outR {s : List Int} {rs : List Rw} {r : Rw} : r ∈ outR s rs ↔ r ∈ rs ∧ r.nd.id ∉ s := by unfold outR; simp
def fo (f : Int) (s : List Int) : Int := if f ∈ s then 0 else f
theorem fo_fo (f : Int) {s t : List Int} (h : (0 : Int) ∉ t) : fo (fo f s) t = fo f (s ++ t) := by
  unfold fo
  by_cases h1 : f ∈ s
  · rw [if_pos h1, if_neg h, if_pos (by simp [h1])]
  · rw [if_neg h1]
    by_cases h2 : f ∈ t
    · rw [if_pos h2, if_pos (by simp [h2])]
    · rw [if_neg h2, if_neg (by simp [h1, h2])]
theorem fo_nil (f : Int) : fo f [] = f := by simp [fo]
theorem fo_congr {s t : List Int} (h : ∀ c, c ∈ s ↔ c ∈ t) (f : Int) : fo f s = fo f t := by
  unfold fo; by_cases h1 : f ∈ s
  · rw [if_pos h1, if_pos ((h f).1 h1)]
  · rw [if_neg h1, if_neg (fun e => h1 ((h f).2 e))]
theorem outA_find (s : List Int) (l : List Nd) (y : Int) (h : y ∉ s) : hasL (outA s l) y = hasL l y ∧ kidsOf (outA s l) y = kidsOf l y := by
  unfold hasL kidsOf
  rw [out_find, if_neg h]
  exact ⟨rfl, rfl⟩

theorem erase_map {α β : Type} (f : α → β) : ∀ (l : List α) (k : Nat), (l.map f).eraseIdx k = (l.eraseIdx k).map f
  | [], _ => rfl
  | _ :: _, 0 => rfl
  | a :: l, k + 1 => by show f a :: (l.map f).eraseIdx k = f a :: (l.eraseIdx k).map f; rw [erase_map f l k]

/-! ### The last step: the node itself -/
theorem erase_out : ∀ {rs : List Rw} {k : Nat} (hk : k < rs.length), (rs.map (·.nd)).Pairwise (fun a b => a.id < b.id) → rs.eraseIdx k = outR [rs[k].nd.id] rs
  | [], _, hk, _ => absurd hk (by simp)
  | r :: rs, 0, _, h => by
    obtain ⟨h1, _⟩ := List.pairwise_cons.1 h
    show rs = outR [r.nd.id] (r :: rs)
    unfold outR
    rw [List.filter_cons]
    simp only [List.mem_singleton, decide_true, Bool.not_true, Bool.false_eq_true, if_false]
    exact (List.filter_eq_self.2 (fun s hs => by
      have : r.nd.id < s.nd.id := h1 s.nd (List.mem_map.2 ⟨s, hs, rfl⟩)
      have hne : ¬ s.nd.id = r.nd.id := by omega
      simp [hne])).symm
  | r :: rs, k + 1, hk, h => by
    obtain ⟨h1, h2⟩ := List.pairwise_cons.1 h
    have hk' : k < rs.length := by simpa using hk
    have ih := erase_out hk' h2
    have hne : ¬ r.nd.id = rs[k].nd.id := by
      have : r.nd.id < rs[k].nd.id := h1 rs[k].nd (List.mem_map.2 ⟨rs[k], List.getElem_mem hk', rfl⟩)
      omega
    show r :: rs.eraseIdx k = outR [rs[k].nd.id] (r :: rs)
    rw [ih]
    unfold outR
    rw [List.filter_cons]
    simp [hne]
theorem less_ids (i : Int) (rs : List Rw) : less i (idsOf (rs.map (·.nd))) = idsOf ((outR [i] rs).map (·.nd)) := by
  unfold less idsOf outR
  simp only [List.map_map, List.filter_map]
  congr 1
  apply List.filter_congr
  intro r _
  simp [Function.comp]
/-! ### drop -/
structure SubOk (l : List Nd) (K : Int → List Int) (f : Nat) (i : Int) : Prop where
  hb : Hb K f i
  nd : (sub K f i).Nodup
  at_ : ∀ c ∈ sub K f i, hasL l c = true ∧ kidsOf l c = K c
def upto (K : Int → List Int) (f : Nat) (i : Int) (j : Nat) : List Int := ((K i).take j).flatMap (sub K f)
theorem upto_succ {K : Int → List Int} {f : Nat} {i : Int} {j : Nat} (hj : j < (K i).length) : upto K f i (j + 1) = upto K f i j ++ sub K f (K i)[j] := by
  unfold upto
  rw [List.take_succ_eq_append_getElem hj, List.flatMap_append]
  simp
theorem upto_all (K : Int → List Int) (f : Nat) (i : Int) : upto K f i (K i).length = (K i).flatMap (sub K f) := by unfold upto; rw [List.take_length]
theorem SubOk.kid {l : List Nd} {K : Int → List Int} {f : Nat} {i : Int} (h : SubOk l K (f + 1) i) {j : Nat} (hj : j < (K i).length) : SubOk (outA (upto K f i j) l) K f (K i)[j] ∧ (∀ c ∈ sub K f (K i)[j], c ∉ upto K f i j) := by
  have hn := h.nd
  rw [sub, List.nodup_cons] at hn
  have hsplit : (K i).flatMap (sub K f) = upto K f i j ++ (sub K f (K i)[j] ++ ((K i).drop (j + 1)).flatMap (sub K f)) := by
    unfold upto
    have e : K i = (K i).take j ++ ((K i)[j] :: (K i).drop (j + 1)) := by rw [← List.drop_eq_getElem_cons hj, List.take_append_drop]
    have := congrArg (List.flatMap (sub K f)) e
    rw [List.flatMap_append, List.flatMap_cons] at this
    exact this
  rw [hsplit, List.nodup_append, List.nodup_append] at hn
  have hdis : ∀ c ∈ sub K f (K i)[j], c ∉ upto K f i j := fun c hc hu => hn.2.2.2 c hu c (by simp [hc]) rfl
  refine ⟨⟨h.hb _ (List.getElem_mem hj), hn.2.2.1.1, fun c hc => ?_⟩, hdis⟩
  have hin : c ∈ sub K (f + 1) i := by
    rw [sub, List.mem_cons, List.mem_flatMap]
    exact .inr ⟨_, List.getElem_mem hj, hc⟩
  obtain ⟨h1, h2⟩ := outA_find (upto K f i j) l c (hdis c hc)
  rw [h1, h2]
  exact h.at_ c hin
theorem SubOk.self_not {l : List Nd} {K : Int → List Int} {f : Nat} {i : Int} (h : SubOk l K (f + 1) i) (j : Nat) : i ∉ upto K f i j := by
  intro hm
  have hn := h.nd
  rw [sub, List.nodup_cons] at hn
  unfold upto at hm
  obtain ⟨c, hc, hm⟩ := List.mem_flatMap.1 hm
  exact hn.1 (List.mem_flatMap.2 ⟨c, List.mem_of_mem_take hc, hm⟩)
end Go.Proofs.Ythdgaoifbejpjaa.P5
