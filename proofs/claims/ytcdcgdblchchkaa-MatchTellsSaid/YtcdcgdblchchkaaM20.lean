/- A node that is let go, and all below it. -/
import Derived.Test.YtcdcgdblchchkaaM2
import Derived.Test.YtcdcgdblchchkaaM19
set_option linter.unusedVariables false
set_option linter.unusedSimpArgs false
set_option linter.unusedVariables false
set_option linter.unusedSimpArgs false
namespace Go.Proofs.Ytcdcgdblchchkaa.P5
open Go.RowKit Kd P4
variable {B p : Nat} {x : Dx}

def outR (s : List Int) (rs : List Rw) : List Rw := rs.filter fun r => !decide (r.nd.id ∈ s)
theorem outR_nd (s : List Int) (rs : List Rw) : (outR s rs).map (·.nd) = outA s (rs.map (·.nd)) := by
  unfold outR outA
  rw [List.filter_map]
  rfl
theorem outR_outR (s t : List Int) (rs : List Rw) : outR t (outR s rs) = outR (s ++ t) rs := by
  unfold outR
  rw [List.filter_filter]
  apply List.filter_congr
  intro r _
  by_cases h1 : r.nd.id ∈ s <;> by_cases h2 : r.nd.id ∈ t <;> simp [h1, h2]
theorem outR_nil (rs : List Rw) : outR [] rs = rs := by
  unfold outR
  rw [List.filter_eq_self]
  intro r _; simp
theorem outR_congr {s t : List Int} (h : ∀ c, c ∈ s ↔ c ∈ t) (rs : List Rw) : outR s rs = outR t rs := by
  unfold outR
  apply List.filter_congr
  intro r _
  simp [h]
theorem mem_outR {s : List Int} {rs : List Rw} {r : Rw} : r ∈ outR s rs ↔ r ∈ rs ∧ r.nd.id ∉ s := by unfold outR; simp
def fo (f : Int) (s : List Int) : Int := if f ∈ s then 0 else f
theorem fo_fo (f : Int) {s t : List Int} (h : (0 : Int) ∉ t) : fo (fo f s) t = fo f (s ++ t) := by
  unfold fo
  by_cases h1 : f ∈ s
  · rw [if_pos h1, if_neg h, if_pos (by simp [h1])]
  · rw [if_neg h1]
    by_cases h2 : f ∈ t
    · rw [if_pos h2, if_pos (by simp [h2])]
    · rw [if_neg h2, if_neg (by simp [h1, h2])]
theorem fo_nil (f : Int) : fo f [] = f := by simp [fo]
theorem fo_congr {s t : List Int} (h : ∀ c, c ∈ s ↔ c ∈ t) (f : Int) : fo f s = fo f t := by
  unfold fo; by_cases h1 : f ∈ s
  · rw [if_pos h1, if_pos ((h f).1 h1)]
  · rw [if_neg h1, if_neg (fun e => h1 ((h f).2 e))]
theorem outA_find (s : List Int) (l : List Nd) (y : Int) (h : y ∉ s) : hasL (outA s l) y = hasL l y ∧ kidsOf (outA s l) y = kidsOf l y := by
  unfold hasL kidsOf
  rw [out_find, if_neg h]
  exact ⟨rfl, rfl⟩

theorem erase_map {α β : Type} (f : α → β) : ∀ (l : List α) (k : Nat), (l.map f).eraseIdx k = (l.eraseIdx k).map f
  | [], _ => rfl
  | _ :: _, 0 => rfl
  | a :: l, k + 1 => by show f a :: (l.map f).eraseIdx k = f a :: (l.eraseIdx k).map f; rw [erase_map f l k]

/-! ### The last step: the node itself -/
theorem erase_out : ∀ {rs : List Rw} {k : Nat} (hk : k < rs.length), (rs.map (·.nd)).Pairwise (fun a b => a.id < b.id) → rs.eraseIdx k = outR [rs[k].nd.id] rs
  | [], _, hk, _ => absurd hk (by simp)
  | r :: rs, 0, _, h => by
    obtain ⟨h1, _⟩ := List.pairwise_cons.1 h
    show rs = outR [r.nd.id] (r :: rs)
    unfold outR
    rw [List.filter_cons]
    simp only [List.mem_singleton, decide_true, Bool.not_true, Bool.false_eq_true, if_false]
    exact (List.filter_eq_self.2 (fun s hs => by
      have : r.nd.id < s.nd.id := h1 s.nd (List.mem_map.2 ⟨s, hs, rfl⟩)
      have hne : ¬ s.nd.id = r.nd.id := by omega
      simp [hne])).symm
  | r :: rs, k + 1, hk, h => by
    obtain ⟨h1, h2⟩ := List.pairwise_cons.1 h
    have hk' : k < rs.length := by simpa using hk
    have ih := erase_out hk' h2
    have hne : ¬ r.nd.id = rs[k].nd.id := by
      have : r.nd.id < rs[k].nd.id := h1 rs[k].nd (List.mem_map.2 ⟨rs[k], List.getElem_mem hk', rfl⟩)
      omega
    show r :: rs.eraseIdx k = outR [rs[k].nd.id] (r :: rs)
    rw [ih]
    unfold outR
    rw [List.filter_cons]
    simp [hne]
theorem less_ids (i : Int) (rs : List Rw) : less i (idsOf (rs.map (·.nd))) = idsOf ((outR [i] rs).map (·.nd)) := by
  unfold less idsOf outR
  simp only [List.map_map, List.filter_map]
  congr 1
  apply List.filter_congr
  intro r _
  simp [Function.comp]
/-! ### drop -/
structure SubOk (l : List Nd) (K : Int → List Int) (f : Nat) (i : Int) : Prop where
  hb : Hb K f i
  nd : (sub K f i).Nodup
  at_ : ∀ c ∈ sub K f i, hasL l c = true ∧ kidsOf l c = K c
def upto (K : Int → List Int) (f : Nat) (i : Int) (j : Nat) : List Int := ((K i).take j).flatMap (sub K f)
theorem upto_succ {K : Int → List Int} {f : Nat} {i : Int} {j : Nat} (hj : j < (K i).length) : upto K f i (j + 1) = upto K f i j ++ sub K f (K i)[j] := by
  unfold upto
  rw [List.take_succ_eq_append_getElem hj, List.flatMap_append]
  simp
theorem upto_all (K : Int → List Int) (f : Nat) (i : Int) : upto K f i (K i).length = (K i).flatMap (sub K f) := by unfold upto; rw [List.take_length]
theorem SubOk.kid {l : List Nd} {K : Int → List Int} {f : Nat} {i : Int} (h : SubOk l K (f + 1) i) {j : Nat} (hj : j < (K i).length) : SubOk (outA (upto K f i j) l) K f (K i)[j] ∧ (∀ c ∈ sub K f (K i)[j], c ∉ upto K f i j) := by
  have hn := h.nd
  rw [sub, List.nodup_cons] at hn
  have hsplit : (K i).flatMap (sub K f) = upto K f i j ++ (sub K f (K i)[j] ++ ((K i).drop (j + 1)).flatMap (sub K f)) := by
    unfold upto
    have e : K i = (K i).take j ++ ((K i)[j] :: (K i).drop (j + 1)) := by rw [← List.drop_eq_getElem_cons hj, List.take_append_drop]
    have := congrArg (List.flatMap (sub K f)) e
    rw [List.flatMap_append, List.flatMap_cons] at this
    exact this
  rw [hsplit, List.nodup_append, List.nodup_append] at hn
  have hdis : ∀ c ∈ sub K f (K i)[j], c ∉ upto K f i j := fun c hc hu => hn.2.2.2 c hu c (by simp [hc]) rfl
  refine ⟨⟨h.hb _ (List.getElem_mem hj), hn.2.2.1.1, fun c hc => ?_⟩, hdis⟩
  have hin : c ∈ sub K (f + 1) i := by
    rw [sub, List.mem_cons, List.mem_flatMap]
    exact .inr ⟨_, List.getElem_mem hj, hc⟩
  obtain ⟨h1, h2⟩ := outA_find (upto K f i j) l c (hdis c hc)
  rw [h1, h2]
  exact h.at_ c hin
theorem SubOk.self_not {l : List Nd} {K : Int → List Int} {f : Nat} {i : Int} (h : SubOk l K (f + 1) i) (j : Nat) : i ∉ upto K f i j := by
  intro hm
  have hn := h.nd
  rw [sub, List.nodup_cons] at hn
  unfold upto at hm
  obtain ⟨c, hc, hm⟩ := List.mem_flatMap.1 hm
  exact hn.1 (List.mem_flatMap.2 ⟨c, List.mem_of_mem_take hc, hm⟩)
end Go.Proofs.Ytcdcgdblchchkaa.P5

/- A node that goes, or the error; each change. -/
set_option linter.unusedVariables false
set_option linter.unusedSimpArgs false
namespace Go.Proofs.Ytcdcgdblchchkaa.P5
open Go.RowKit Kd P4
variable {B p : Nat} {x : Dx}

theorem sub_zero {l : List Nd} (h : Tr (fun y => hasL l y = true) (parOf l) (kidsOf l)) (f : Nat) (c : Int) : (0 : Int) ∉ sub (kidsOf l) f c ∨ c = 0 := by
  by_cases e : c = 0
  · exact .inr e
  · refine .inl fun hm => e ?_
    obtain ⟨j, hj⟩ := h.sub_it f c 0 hm
    rw [h.it0] at hj
    exact hj.symm
/-! ### Apply -/
structure ArgR (w : World) (A : Option Addr) (n c : Nat) (r : Rc) : Prop where
  at_ : ArgA w A n c r.attrs
  tag : r.tag.size ≤ maxLen
  txt : r.txt.size ≤ maxLen
  key : r.key.size ≤ maxLen
theorem ArgR.below {w w' : World} {A : Option Addr} {n c : Nat} {r : Rc} (h : ArgR w A n c r) (hb : Below w.heap.size w w') : ArgR w' A n c r := ⟨h.at_.below hb, h.tag, h.txt, h.key⟩
end Go.Proofs.Ytcdcgdblchchkaa.P5

/- The law's Few of attributes: whether a list is short. -/
set_option linter.unusedVariables false
set_option linter.unusedSimpArgs false
namespace Go.Proofs.Ytcdcgdblchchkaa.P3
open Go.RowKit

theorem fewA_long {l : List At} (h : 20 < l.length) : fewA l = false := by unfold fewA; simp; omega
theorem fewA_bad {l : List At} {k : Nat} (hk : k < l.length) (h : shortA l[k] = false) : fewA l = false := by
  unfold fewA
  have : l.all shortA = false := by
    rw [List.all_eq_false]
    exact ⟨l[k], List.getElem_mem hk, by simp [h]⟩
  rw [this, Bool.and_false]
def ShortTo (l : List At) (k : Nat) : Prop := ∀ j (h : j < l.length), j < k → shortA l[j] = true
theorem ShortTo.zero (l : List At) : ShortTo l 0 := fun _ _ h => absurd h (by omega)
theorem ShortTo.next {l : List At} {k : Nat} (h : ShortTo l k) (hk : k < l.length) (hb : shortA l[k] = true) : ShortTo l (k + 1) := by
  intro j hj hlt
  by_cases e : j = k
  · subst e; exact hb
  · exact h j hj (by omega)
theorem ShortTo.all {l : List At} {k : Nat} (h : ShortTo l k) (hl : l.length ≤ k) (h20 : l.length ≤ 20) : fewA l = true := by
  unfold fewA
  have : l.all shortA = true := by
    rw [List.all_eq_true]
    intro x hx
    obtain ⟨j, hj, rfl⟩ := List.getElem_of_mem hx
    exact h j hj (by omega)
  rw [this, Bool.and_true]
  exact decide_eq_true h20
def fewN (l : List At) : Int := if fewA l then 1 else 0
theorem ret_few {l : List At} {b : Bool} {x : Int} (h : fewA l = b) (hx : x = if b then 1 else 0) : Ending.returned (.int .i64 x) = .returned (.int .i64 (fewN l)) := by
  unfold fewN; rw [h, hx]
theorem short_no {a : At} (h : 100 < a.nm.size ∨ 100 < a.vl.size) : shortA a = false := by
  unfold shortA; rcases h with h | h <;> simp <;> omega
theorem short_yes {a : At} (h : a.nm.size ≤ 100) (h2 : a.vl.size ≤ 100) : shortA a = true := by
  unfold shortA; simp [h, h2]

end Go.Proofs.Ytcdcgdblchchkaa.P3

/- The deeds of layer 5's laws, as they lie in memory; Few, Rec. -/
set_option linter.unusedVariables false
set_option linter.unusedSimpArgs false
namespace Go.Proofs.Ytcdcgdblchchkaa.P5
open Go.RowKit Kd P4
variable {B p : Nat} {x : Dx}

/-- a deed that came in: its texts are no longer than texts may be, its attributes lie in memory -/
structure DeedOk (w : World) (r : RE) : Prop where
  what1 : -9223372036854775808 ≤ r.what
  what2 : r.what ≤ 9223372036854775807
  tag : r.tag.size ≤ maxLen
  txt : r.txt.size ≤ maxLen
  key : r.key.size ≤ maxLen
  at_ : ∃ l : List P3.At, l.length = r.va.n ∧ r.va.n ≤ r.va.c ∧ r.va.c ≤ maxLen ∧ (r.va.A = none → r.va.c = 0) ∧ kA.Holds w w.heap.size r.va.A l ∧ P3.Wf l
theorem DeedOk.below {w w' : World} {r : RE} (h : DeedOk w r) (hb : Below w.heap.size w w') : DeedOk w' r := by
  obtain ⟨l, h1, h2, h3, h4, h5, h6⟩ := h.at_
  exact ⟨h.what1, h.what2, h.tag, h.txt, h.key, l, h1, h2, h3, h4, h5.on hb, h6⟩
def Few5 (w : World) (l : List RE) (e : Ending) (w' : World) : Prop :=
  ∃ f : Int, e = .returned (.int .i64 f) ∧ (f = 0 ∨ f = 1 ∧ l.length ≤ 60 ∧ ∀ r ∈ l, r.va.n ≤ 20) ∧ Below w.heap.size w w'
theorem few5_no {w w' : World} {l : List RE} (hb : Below w.heap.size w w') : Few5 w l (.returned (.int .i64 0)) w' := ⟨0, rfl, .inl rfl, hb⟩
/-! ### Rec -/
/-- the change of a deed, of a document whose last identity is n -/
def recOf (r : RE) (n : Int) (l : List P3.At) : Rc := ⟨r.op, if r.next = true ∧ r.op = 1 then n + 1 else r.rid, r.par, r.bef, r.tag, r.txt, r.key, l⟩
def Recd (w : World) (r : RE) (n : Int) (e : Ending) (w' : World) : Prop :=
  e = .returned (.agg #[.int .i64 r.op, .int .i64 (if r.next = true ∧ r.op = 1 then n + 1 else r.rid), .int .i64 r.par, .int .i64 r.bef, .string r.tag, .string r.txt, .string r.key, .slice r.va.A r.va.n r.va.c]) ∧ Below w.heap.size w w'
end Go.Proofs.Ytcdcgdblchchkaa.P5

/- The document's example of layer 5, at the head of both laws: it answers true. -/
set_option linter.unusedVariables false
set_option linter.unusedSimpArgs false
namespace Go.Proofs.Ytcdcgdblchchkaa.P5
open Go.RowKit Kd P4

def rec1 : Rc := ⟨1, 2, 0, 0, ⟨#[112]⟩, ⟨#[]⟩, ⟨#[]⟩, []⟩
def rec2 : Rc := ⟨2, 2, 1, 0, ⟨#[]⟩, ⟨#[]⟩, ⟨#[]⟩, []⟩
def nodeR : Nd := newN 1 ⟨#[114, 111, 111, 116]⟩ ⟨#[]⟩ ⟨#[]⟩
def nodeP : Nd := newN 2 ⟨#[112]⟩ ⟨#[]⟩ ⟨#[]⟩
theorem list1 : (⟨#[112]⟩ : ByteArray).toList = [112] := by rw [ByteArray.toList_eq]
theorem list0 : (⟨#[]⟩ : ByteArray).toList = [] := by rw [ByteArray.toList_eq]
theorem listR : (⟨#[114, 111, 111, 116]⟩ : ByteArray).toList = [114, 111, 111, 116] := by rw [ByteArray.toList_eq]
theorem ex1 : applyD (newD 9) rec1 = (0, ⟨[nodeR, nodeP], 2, 9, 0⟩) := by
  have hm : mayMake ⟨#[112]⟩ ⟨#[]⟩ ⟨#[]⟩ = true := by
    unfold mayMake
    rw [list1, list0]
    decide
  unfold applyD
  rw [if_pos (show rec1.op = 1 from rfl)]
  unfold makeD
  rw [if_neg (by rintro (e | e); (exact e rfl); (rw [show mayMake rec1.tag rec1.txt rec1.key = true from hm] at e; cases e)), if_neg (by decide)]
  rfl
theorem ex2 : applyD ⟨[nodeR, nodeP], 2, 9, 0⟩ rec2 = (0, ⟨[withKids (insA 2 0) nodeR, withPar 1 nodeP], 2, 9, 0⟩) := by
  have hk : noKids nodeR.tag = false := by
    unfold noKids
    rw [show nodeR.tag.toList = [114, 111, 111, 116] from listR]
    decide
  have he : putErr [nodeR, nodeP] 2 1 0 = 0 := by
    unfold putErr
    rw [if_neg (by decide), if_neg (by decide), if_neg (by rw [show tagOf [nodeR, nodeP] 1 = nodeR.tag from rfl, hk]; decide), if_neg (by decide), if_neg (by decide)]
  unfold applyD
  rw [if_neg (by decide), if_pos (show rec2.op = 2 from rfl)]
  unfold putD
  rw [if_pos (show putErr [nodeR, nodeP] rec2.id rec2.par rec2.bef = 0 from he)]
  rfl
theorem argNil (w : World) : ArgA w none 0 0 [] := ⟨rfl, Nat.le_refl _, fun _ => rfl, by omega, fun a h => absurd h (by simp), Kind.Holds.nil _ _ _⟩
theorem size_nil : (⟨#[]⟩ : ByteArray).size ≤ maxLen := by unfold maxLen; decide
theorem size_one : (⟨#[112]⟩ : ByteArray).size ≤ maxLen := by unfold maxLen; decide
theorem errV0 : errV 0 = .nilIface := rfl
end Go.Proofs.Ytcdcgdblchchkaa.P5
