/- Documents, as plain lists of nodes: each change, and what it leaves as it must be. No condition. -/
import Derived.Test.YtfjnbjpenibpkaaM2
import Derived.Test.YtfjnbjpenibpkaaM13
set_option linter.unusedVariables false
set_option linter.unusedSimpArgs false
set_option linter.unusedVariables false
set_option linter.unusedSimpArgs false
namespace Go.Proofs.Ytfjnbjpenibpkaa.P5

structure Nd where
  id : Int
  par : Int
  tag : ByteArray
  txt : ByteArray
  key : ByteArray
  attrs : List P3.At
  kids : List Int
  note : Int
structure D where
  l : List Nd
  n : Int
  R : Nat
  foc : Int
/-- a change -/
structure Rc where
  op : Int
  id : Int
  par : Int
  bef : Int
  tag : ByteArray
  txt : ByteArray
  key : ByteArray
  attrs : List P3.At

/-! ### Who is there -/
def find (l : List Nd) (y : Int) : Option Nd := l.find? fun x => decide (x.id = y)
def hasL (l : List Nd) (y : Int) : Bool := (find l y).isSome
def parOf (l : List Nd) (y : Int) : Int := match find l y with
  | some x => x.par
  | none => 0
def kidsOf (l : List Nd) (y : Int) : List Int := match find l y with
  | some x => x.kids
  | none => []
def upd (l : List Nd) (i : Int) (f : Nd → Nd) : List Nd := l.map fun x => if x.id = i then f x else x
def idsOf (l : List Nd) : List Int := l.map (·.id)

theorem find_some {l : List Nd} {y : Int} {x : Nd} (h : find l y = some x) : x ∈ l ∧ x.id = y := by
  unfold find at h
  exact ⟨List.mem_of_find?_eq_some h, by simpa using List.find?_some h⟩
theorem find_none {l : List Nd} {y : Int} (h : ∀ x ∈ l, x.id ≠ y) : find l y = none := by
  unfold find
  rw [List.find?_eq_none]
  simpa using h
theorem has_iff {l : List Nd} {y : Int} : hasL l y = true ↔ ∃ x ∈ l, x.id = y := by
  unfold hasL find
  rw [List.find?_isSome]
  simp
theorem has_no {l : List Nd} {y : Int} : hasL l y = false ↔ ∀ x ∈ l, x.id ≠ y := by
  rw [← Bool.not_eq_true, has_iff]
  exact ⟨fun h x hx e => h ⟨x, hx, e⟩, fun h ⟨x, hx, e⟩ => h x hx e⟩
theorem has_ids {l : List Nd} {y : Int} : hasL l y = true ↔ y ∈ idsOf l := by
  rw [has_iff]; simp [idsOf]
def Asc (l : List Nd) : Prop := l.Pairwise fun a b => a.id < b.id
theorem Asc.find : ∀ {l : List Nd}, Asc l → ∀ {x : Nd}, x ∈ l → P5.find l x.id = some x
  | [], _, _, hx => absurd hx (by simp)
  | a :: r, h, x, hx => by
    obtain ⟨h1, h2⟩ := List.pairwise_cons.1 h
    unfold P5.find
    rw [List.find?_cons]
    by_cases e : a.id = x.id
    · rw [decide_eq_true e]
      rcases List.mem_cons.1 hx with rfl | hx
      · rfl
      · have := h1 x hx; omega
    · rw [decide_eq_false e]
      rcases List.mem_cons.1 hx with rfl | hx
      · exact absurd rfl e
      · exact Asc.find h2 hx
theorem Asc.at {l : List Nd} (h : Asc l) {k : Nat} (hk : k < l.length) : P5.find l l[k].id = some l[k] := h.find (List.getElem_mem hk)
theorem Asc.inj {l : List Nd} (h : Asc l) {i j : Nat} (hi : i < l.length) (hj : j < l.length) (e : l[i].id = l[j].id) : i = j := by
  have key := List.pairwise_iff_getElem.1 h
  rcases Nat.lt_trichotomy i j with hl | hl | hl
  · have := key i j hi hj hl; omega
  · exact hl
  · have := key j i hj hi hl; omega
theorem find_upd (l : List Nd) (i : Int) (f : Nd → Nd) (hf : ∀ x, (f x).id = x.id) (y : Int) : find (upd l i f) y = (find l y).map fun x => if x.id = i then f x else x := by
  unfold find upd
  rw [List.find?_map]
  congr 1
  apply congrArg (fun p => List.find? p l)
  funext x
  simp only [Function.comp]
  split
  · rw [hf]
  · rfl
theorem upd_ids (l : List Nd) (i : Int) (f : Nd → Nd) (hf : ∀ x, (f x).id = x.id) : idsOf (upd l i f) = idsOf l := by
  unfold idsOf upd
  rw [List.map_map]
  apply List.map_congr_left
  intro x _
  simp only [Function.comp]
  split
  · exact hf x
  · rfl
theorem upd_len (l : List Nd) (i : Int) (f : Nd → Nd) : (upd l i f).length = l.length := by simp [upd]
theorem mem_upd {l : List Nd} {i : Int} {f : Nd → Nd} {z : Nd} : z ∈ upd l i f ↔ ∃ x ∈ l, z = if x.id = i then f x else x := by
  unfold upd
  rw [List.mem_map]
  exact ⟨fun ⟨x, hx, e⟩ => ⟨x, hx, e.symm⟩, fun ⟨x, hx, e⟩ => ⟨x, hx, e.symm⟩⟩
theorem asc_of_ids {l m : List Nd} (h : Asc l) (e : idsOf m = idsOf l) : Asc m := by
  have h1 : (idsOf l).Pairwise (· < ·) := by unfold idsOf; rw [List.pairwise_map]; exact h
  rw [← e] at h1
  unfold idsOf at h1
  rwa [List.pairwise_map] at h1
/-- by its place: the same -/
theorem Asc.set_upd {l : List Nd} (h : Asc l) {k : Nat} (hk : k < l.length) (f : Nd → Nd) : l.set k (f l[k]) = upd l l[k].id f := by
  apply List.ext_getElem
  · simp [upd]
  · intro j h1 h2
    have hj : j < l.length := by simpa using h1
    simp only [upd, List.getElem_map, List.getElem_set]
    by_cases e : k = j
    · subst e; simp
    · rw [if_neg e, if_neg (fun e2 => e (h.inj hk hj e2.symm))]
theorem has_upd (l : List Nd) (i : Int) (f : Nd → Nd) (hf : ∀ x, (f x).id = x.id) (y : Int) : hasL (upd l i f) y = hasL l y := by
  unfold hasL
  rw [find_upd l i f hf]
  simp
theorem par_upd {l : List Nd} {i : Int} {f : Nd → Nd} (hf : ∀ x, (f x).id = x.id) {g : Nd → Int} (hg : ∀ x, (f x).par = g x) (y : Int) :
    parOf (upd l i f) y = match find l y with
      | some x => if y = i then g x else x.par
      | none => 0 := by
  unfold parOf
  rw [find_upd l i f hf]
  cases e : find l y with
  | none => rfl
  | some x =>
    obtain ⟨_, hx⟩ := find_some e
    subst hx
    simp only [Option.map_some]
    split
    · exact hg x
    · rfl
theorem kids_upd {l : List Nd} {i : Int} {f : Nd → Nd} (hf : ∀ x, (f x).id = x.id) {g : Nd → List Int} (hg : ∀ x, (f x).kids = g x) (y : Int) :
    kidsOf (upd l i f) y = match find l y with
      | some x => if y = i then g x else x.kids
      | none => [] := by
  unfold kidsOf
  rw [find_upd l i f hf]
  cases e : find l y with
  | none => rfl
  | some x =>
    obtain ⟨_, hx⟩ := find_some e
    subst hx
    simp only [Option.map_some]
    split
    · exact hg x
    · rfl
theorem find_filter (l : List Nd) (q : Int → Bool) (y : Int) : find (l.filter fun x => q x.id) y = if q y = true then find l y else none := by
  unfold find
  rw [List.find?_filter]
  by_cases h : q y = true
  · rw [if_pos h]
    apply congrArg (fun p => List.find? p l)
    funext x
    by_cases e : x.id = y
    · subst e; simp [h]
    · simp [e]
  · rw [if_neg h, List.find?_eq_none]
    intro x _
    by_cases e : x.id = y
    · subst e; simp [h]
    · simp [e]
theorem find_new {l : List Nd} {x : Nd} (hx : hasL l x.id = false) (y : Int) : find (l ++ [x]) y = if y = x.id then some x else find l y := by
  unfold find
  rw [List.find?_append]
  by_cases e : y = x.id
  · subst e
    rw [if_pos rfl]
    have : List.find? (fun z => decide (z.id = x.id)) l = none := by
      have := has_no.1 hx
      rw [List.find?_eq_none]
      simpa using this
    rw [this]
    simp
  · rw [if_neg e]
    cases List.find? (fun z => decide (z.id = y)) l with
    | some z => rfl
    | none => simp [Ne.symm e]
theorem par_at {l : List Nd} {y : Int} {x : Nd} (h : find l y = some x) : parOf l y = x.par := by unfold parOf; rw [h]
theorem kids_at {l : List Nd} {y : Int} {x : Nd} (h : find l y = some x) : kidsOf l y = x.kids := by unfold kidsOf; rw [h]
theorem has_find {l : List Nd} {y : Int} (h : hasL l y = true) : ∃ x, find l y = some x := Option.isSome_iff_exists.1 h
theorem find_has {l : List Nd} {y : Int} {x : Nd} (h : find l y = some x) : hasL l y = true := by unfold hasL; rw [h]; rfl

/-! ### The changes -/
def withPar (p : Int) (x : Nd) : Nd := { x with par := p }
def withKids (f : List Int → List Int) (x : Nd) : Nd := { x with kids := f x.kids }
def withAttrs (a : List P3.At) (x : Nd) : Nd := { x with attrs := a }
def withTxt (t : ByteArray) (x : Nd) : Nd := { x with txt := t }
def withNote (n : Int) (x : Nd) : Nd := { x with note := n }
def less (i : Int) (l : List Int) : List Int := l.filter fun c => decide (c ≠ i)
def leaveL (l : List Nd) (i : Int) : List Nd := if parOf l i = 0 then l else upd (upd l (parOf l i) (withKids (less i))) i (withPar 0)
/-- i, ahead of b; behind all, if b is 0 -/
def insA (i b : Int) (l : List Int) : List Int := if b = 0 then l ++ [i] else l.flatMap fun c => if c = b then [i, c] else [c]
def putL (l : List Nd) (i p b : Int) : List Nd := upd (upd (leaveL l i) p (withKids (insA i b))) i (withPar p)
def below (l : List Nd) (i : Int) : List Int := sub (kidsOf l) (l.length + 1) i
def outA (s : List Int) (l : List Nd) : List Nd := l.filter fun x => !decide (x.id ∈ s)
def goneL (l : List Nd) (i : Int) : List Nd := outA (below (leaveL l i) i) (leaveL l i)
def aboveL (l : List Nd) (a : Int) : List Int := up (hasL l) (parOf l) (l.length + 1) a
def inside (l : List Nd) (a b : Int) : Bool := decide (b ∈ aboveL l a)

def mayMake (tag txt key : ByteArray) : Bool := if tag.toList = [] then P1.textB txt.data.toList && decide (key.toList = []) else P1.nameB tag.data.toList && P1.textB key.data.toList && decide (txt.toList = [])
def newN (i : Int) (tag txt key : ByteArray) : Nd := ⟨i, 0, tag, txt, key, [], [], 0⟩
def makeD (d : D) (r : Rc) : Int × D :=
  if r.id ≠ d.n + 1 ∨ mayMake r.tag r.txt r.key = false then (1, d)
  else if d.R ≤ d.l.length then (6, d)
  else (0, { d with l := d.l ++ [newN r.id r.tag r.txt r.key], n := d.n + 1 })
def tagOf (l : List Nd) (y : Int) : ByteArray := match find l y with
  | some x => x.tag
  | none => ⟨#[]⟩
def noKids (t : ByteArray) : Bool := decide (t.toList = []) || P1.voidB t.data.toList
def putErr (l : List Nd) (i p b : Int) : Int :=
  if hasL l i = false ∨ hasL l p = false ∨ b ≠ 0 ∧ hasL l b = false then 2
  else if i = 1 then 4
  else if noKids (tagOf l p) = true then 3
  else if b ≠ 0 ∧ (parOf l b ≠ p ∨ b = i) then 1
  else if inside l p i = true then 5
  else 0
def putD (d : D) (i p b : Int) : Int × D := if putErr d.l i p b = 0 then (0, { d with l := putL d.l i p b }) else (putErr d.l i p b, d)
def goneD (d : D) (i : Int) : Int × D :=
  if hasL d.l i = false then (2, d)
  else if i = 1 then (4, d)
  else (0, { d with l := goneL d.l i, foc := if d.foc ∈ below (leaveL d.l i) i then 0 else d.foc })
def attrsD (d : D) (i : Int) (a : List P3.At) : Int × D :=
  if hasL d.l i = false then (2, d)
  else if (tagOf d.l i).toList = [] then (3, d)
  else if P3.mayA a = false then (1, d)
  else (0, { d with l := upd d.l i (withAttrs a) })
def dataD (d : D) (i : Int) (t : ByteArray) : Int × D :=
  if hasL d.l i = false then (2, d)
  else if (tagOf d.l i).toList ≠ [] then (3, d)
  else if P1.textB t.data.toList = false then (1, d)
  else (0, { d with l := upd d.l i (withTxt t) })
def applyD (d : D) (r : Rc) : Int × D :=
  if r.op = 1 then makeD d r
  else if r.op = 2 then putD d r.id r.par r.bef
  else if r.op = 3 then goneD d r.id
  else if r.op = 4 then attrsD d r.id r.attrs
  else if r.op = 5 then dataD d r.id r.txt
  else (1, d)
def focusD (d : D) (i : Int) : Int × D := if i ≠ 0 ∧ hasL d.l i = false then (2, d) else (0, { d with foc := i })
def noteD (d : D) (i : Int) (n : Int) : Int × D := if hasL d.l i = false then (2, d) else (0, { d with l := upd d.l i (withNote n) })

/-! ### What stays as it must be -/
/-- a node's key: a text has none; it is short, and so is the tag -/
def KeyT (x : Nd) : Prop := (x.tag.toList = [] → x.key.toList = []) ∧ x.tag.size ≤ 60 ∧ x.key.size ≤ 60
structure WF (d : D) : Prop where
  asc : Asc d.l
  rng : ∀ x ∈ d.l, 1 ≤ x.id ∧ x.id ≤ d.n
  n0 : 1 ≤ d.n
  len : d.l.length ≤ d.R
  room : d.R ≤ 200
  root : hasL d.l 1 = true
  root0 : parOf d.l 1 = 0
  tr : Tr (fun y => hasL d.l y = true) (parOf d.l) (kidsOf d.l)
  elem : ∀ x ∈ d.l, x.tag.toList = [] → x.kids = []
  att : ∀ x ∈ d.l, x.attrs.length ≤ 8
  foc : d.foc = 0 ∨ hasL d.l d.foc = true
  keyt : ∀ x ∈ d.l, KeyT x
  mayt : ∀ x ∈ d.l, P3.mayA x.attrs = true

theorem has_wp (l : List Nd) (i v y : Int) : hasL (upd l i (withPar v)) y = hasL l y := has_upd l i (withPar v) (fun _ => rfl) y
theorem has_wk (l : List Nd) (i : Int) (f : List Int → List Int) (y : Int) : hasL (upd l i (withKids f)) y = hasL l y := has_upd l i (withKids f) (fun _ => rfl) y
theorem ids_wp (l : List Nd) (i v : Int) : idsOf (upd l i (withPar v)) = idsOf l := upd_ids l i (withPar v) (fun _ => rfl)
theorem ids_wk (l : List Nd) (i : Int) (f : List Int → List Int) : idsOf (upd l i (withKids f)) = idsOf l := upd_ids l i (withKids f) (fun _ => rfl)
/-- a node's parent is set anew -/
theorem par_with {l : List Nd} {i v : Int} (hi : hasL l i = true) : parOf (upd l i (withPar v)) = setF (parOf l) i v := by
  funext y
  rw [par_upd (f := withPar v) (fun _ => rfl) (g := fun _ => v) (fun _ => rfl)]
  unfold setF parOf
  by_cases e : y = i
  · subst e
    obtain ⟨x, hx⟩ := has_find hi
    rw [hx]
  · simp [e]
theorem kids_par {l : List Nd} {i v : Int} : kidsOf (upd l i (withPar v)) = kidsOf l := by
  funext y
  rw [kids_upd (f := withPar v) (fun _ => rfl) (g := fun x => x.kids) (fun _ => rfl)]
  unfold kidsOf
  cases find l y <;> simp
theorem par_kids {l : List Nd} {i : Int} {f : List Int → List Int} : parOf (upd l i (withKids f)) = parOf l := by
  funext y
  rw [par_upd (f := withKids f) (fun _ => rfl) (g := fun x => x.par) (fun _ => rfl)]
  unfold parOf
  cases find l y <;> simp
theorem kids_with {l : List Nd} {i : Int} {f : List Int → List Int} (hi : hasL l i = true) : kidsOf (upd l i (withKids f)) = setF (kidsOf l) i (f (kidsOf l i)) := by
  funext y
  rw [kids_upd (f := withKids f) (fun _ => rfl) (g := fun x => f x.kids) (fun _ => rfl)]
  unfold setF kidsOf
  by_cases e : y = i
  · subst e
    obtain ⟨x, hx⟩ := has_find hi
    rw [hx]
  · simp [e]
theorem has_fun (l m : List Nd) (h : ∀ y, hasL m y = hasL l y) : (fun y => hasL m y = true) = fun y => hasL l y = true := by
  funext y; rw [h]
theorem leave_ids (l : List Nd) (i : Int) : idsOf (leaveL l i) = idsOf l := by
  unfold leaveL
  split
  · rfl
  · rw [ids_wp, ids_wk]
theorem leave_len (l : List Nd) (i : Int) : (leaveL l i).length = l.length := by
  have := congrArg List.length (leave_ids l i)
  simpa [idsOf] using this
theorem leave_has (l : List Nd) (i y : Int) : hasL (leaveL l i) y = hasL l y := by
  unfold leaveL
  split
  · rfl
  · rw [has_wp, has_wk]
section
variable {l : List Nd} {i : Int}
theorem leave_par (h : Tr (fun y => hasL l y = true) (parOf l) (kidsOf l)) : parOf (leaveL l i) = setF (parOf l) i 0 := by
  unfold leaveL
  by_cases e : parOf l i = 0
  · rw [if_pos e]
    funext y
    by_cases e2 : y = i
    · subst e2; rw [setF_same, e]
    · rw [setF_ne _ _ e2]
  · rw [if_neg e, par_with (by rw [has_wk]; exact h.h_of e), par_kids]
theorem leave_kids (h : Tr (fun y => hasL l y = true) (parOf l) (kidsOf l)) : kidsOf (leaveL l i) = setF (kidsOf l) (parOf l i) (less i (kidsOf l (parOf l i))) := by
  unfold leaveL
  by_cases e : parOf l i = 0
  · rw [if_pos e, e, h.k0 h.z]
    funext y
    by_cases e2 : y = 0
    · subst e2; rw [setF_same, h.k0 h.z]; rfl
    · rw [setF_ne _ _ e2]
  · rw [if_neg e, kids_par, kids_with (h.hpar e)]
theorem leave_tr (h : Tr (fun y => hasL l y = true) (parOf l) (kidsOf l)) : Tr (fun y => hasL (leaveL l i) y = true) (parOf (leaveL l i)) (kidsOf (leaveL l i)) := by
  rw [has_fun _ _ (leave_has l i), leave_par h, leave_kids h]
  exact h.leave i
end
theorem mem_less {i c : Int} {l : List Int} : c ∈ less i l ↔ c ∈ l ∧ c ≠ i := by simp [less]
theorem mem_ins {i b c : Int} {l : List Int} (hb : b = 0 ∨ b ∈ l) : c ∈ insA i b l ↔ c = i ∨ c ∈ l := by
  unfold insA
  by_cases e : b = 0
  · rw [if_pos e]; simp [or_comm]
  · rw [if_neg e]
    rw [List.mem_flatMap]
    constructor
    · rintro ⟨d, hd, hc⟩
      split at hc
      · simp at hc; rcases hc with rfl | rfl
        · exact .inl rfl
        · exact .inr hd
      · simp at hc; subst hc; exact .inr hd
    · rintro (rfl | hc)
      · exact ⟨b, hb.resolve_left e, by simp⟩
      · exact ⟨c, hc, by split <;> simp⟩
theorem nod_ins {i b : Int} : ∀ {l : List Int}, l.Nodup → i ∉ l → (insA i b l).Nodup := by
  intro l hn hi
  unfold insA
  by_cases e : b = 0
  · rw [if_pos e, List.nodup_append]
    exact ⟨hn, by simp, fun a ha b hb => by simp at hb; subst hb; rintro rfl; exact hi ha⟩
  · rw [if_neg e]
    clear e
    induction l with
    | nil => simp
    | cons c r ih =>
      obtain ⟨h1, h2⟩ := List.nodup_cons.1 hn
      simp only [List.mem_cons, not_or] at hi
      have ih' := ih h2 hi.2
      rw [List.flatMap_cons]
      have hm : ∀ z, z ∈ r.flatMap (fun c => if c = b then [i, c] else [c]) → z = i ∧ b ∈ r ∨ z ∈ r := by
        intro z hz
        obtain ⟨d, hd, hz⟩ := List.mem_flatMap.1 hz
        split at hz
        · rename_i hdb
          simp at hz
          rcases hz with rfl | rfl
          · exact .inl ⟨rfl, hdb ▸ hd⟩
          · exact .inr hd
        · simp at hz; subst hz; exact .inr hd
      split
      · rename_i hcb
        subst hcb
        have hc1 : c ∉ r.flatMap (fun d => if d = c then [i, d] else [d]) := by
          intro hz
          rcases hm c hz with ⟨e, _⟩ | hz
          · exact hi.1 e.symm
          · exact h1 hz
        have hi1 : i ∉ r.flatMap (fun d => if d = c then [i, d] else [d]) := by
          intro hz
          rcases hm i hz with ⟨_, e⟩ | hz
          · exact h1 e
          · exact hi.2 hz
        show (i :: c :: _).Nodup
        rw [List.nodup_cons, List.nodup_cons]
        exact ⟨by simp only [List.mem_cons, not_or]; exact ⟨hi.1, hi1⟩, hc1, ih'⟩
      · show (c :: _).Nodup
        rw [List.nodup_cons]
        refine ⟨fun hz => ?_, ih'⟩
        rcases hm c hz with ⟨e, _⟩ | hz
        · exact hi.1 e.symm
        · exact h1 hz

section
variable {l : List Nd} {i p b : Int}
/-- put: what it asks ahead -/
structure PutOk (l : List Nd) (i p b : Int) : Prop where
  hi : hasL l i = true
  hp : hasL l p = true
  hb : b = 0 ∨ hasL l b = true ∧ parOf l b = p ∧ b ≠ i
  hn : inside l p i = false
  h1 : i ≠ 1
  hk : noKids (tagOf l p) = false
theorem putErr_ok (h : putErr l i p b = 0) : PutOk l i p b := by
  unfold putErr at h
  split at h
  · omega
  · rename_i c1
    split at h
    · omega
    · rename_i c2
      split at h
      · omega
      · rename_i c3
        split at h
        · omega
        · rename_i c4
          split at h
          · omega
          · rename_i c5
            simp only [not_or, not_and, Bool.not_eq_false, Bool.not_eq_true] at c1 c3 c5
            refine ⟨c1.1, c1.2.1, ?_, c5, c2, c3⟩
            by_cases e : b = 0
            · exact .inl e
            · refine .inr ⟨c1.2.2 e, ?_⟩
              simp only [not_and, not_or] at c4
              obtain ⟨a1, a2⟩ := c4 e
              exact ⟨by simpa using a1, a2⟩
theorem PutOk.ok (h : PutOk l i p b) : putErr l i p b = 0 := by
  unfold putErr
  have hb := h.hb
  have c1 : ¬ (hasL l i = false ∨ hasL l p = false ∨ b ≠ 0 ∧ hasL l b = false) := by
    rw [h.hi, h.hp]
    simp only [Bool.true_eq_false, false_or, not_and, Bool.not_eq_false]
    intro hb0
    exact (hb.resolve_left hb0).1
  have c4 : ¬ (b ≠ 0 ∧ (parOf l b ≠ p ∨ b = i)) := by
    rintro ⟨hb0, e⟩
    obtain ⟨_, a1, a2⟩ := hb.resolve_left hb0
    rcases e with e | e
    · exact e a1
    · exact a2 e
  rw [if_neg c1, if_neg h.h1, h.hk, if_neg (by simp), if_neg c4, h.hn, if_neg (by simp)]
theorem put_has (y : Int) : hasL (putL l i p b) y = hasL l y := by
  unfold putL
  rw [has_wp, has_wk, leave_has]
theorem put_ids : idsOf (putL l i p b) = idsOf l := by
  unfold putL
  rw [ids_wp, ids_wk, leave_ids]
theorem put_par (h : Tr (fun y => hasL l y = true) (parOf l) (kidsOf l)) (hi : hasL l i = true) : parOf (putL l i p b) = setF (parOf (leaveL l i)) i p := by
  unfold putL
  rw [par_with (by rw [has_wk, leave_has]; exact hi), par_kids]
theorem put_kids (hp : hasL l p = true) : kidsOf (putL l i p b) = setF (kidsOf (leaveL l i)) p (insA i b (kidsOf (leaveL l i) p)) := by
  unfold putL
  rw [kids_par, kids_with (by rw [leave_has]; exact hp)]
theorem leave_bef (h : Tr (fun y => hasL l y = true) (parOf l) (kidsOf l)) (hk : PutOk l i p b) : b = 0 ∨ b ∈ kidsOf (leaveL l i) p := by
  rcases hk.hb with e | ⟨h1, h2, h3⟩
  · exact .inl e
  · refine .inr ?_
    have := (leave_tr (i := i) h).par b
    rw [leave_par h, setF_ne _ _ h3, h2] at this
    exact this (h.ne0 hk.hp)
theorem put_tr (h : Tr (fun y => hasL l y = true) (parOf l) (kidsOf l)) (hk : PutOk l i p b) : Tr (fun y => hasL (putL l i p b) y = true) (parOf (putL l i p b)) (kidsOf (putL l i p b)) := by
  have hl := leave_tr (i := i) h
  have hcut : ∀ j, it (parOf (leaveL l i)) j p ≠ i := by
    have h1 : ∀ j, it (parOf l) j p ≠ i := fun j => h.not_up (L := idsOf l) (fun y hy => has_ids.1 hy) hk.hp hk.hi (by
      have := hk.hn
      unfold inside aboveL at this
      simp only [decide_eq_false_iff_not] at this
      simpa [idsOf] using this) j
    intro j
    have : it (parOf (leaveL l i)) j p = it (parOf l) j p := by
      induction j with
      | zero => rfl
      | succ j ih => rw [it_succ, it_succ, ih, leave_par h, setF_ne _ _ (h1 j)]
    rw [this]
    exact h1 j
  have h0 : parOf (leaveL l i) i = 0 := by rw [leave_par h, setF_same]
  rw [has_fun l _ (fun y => put_has y), put_par h hk.hi, put_kids hk.hp]
  rw [has_fun l _ (leave_has l i)] at hl
  refine hl.come hk.hi hk.hp h0 hcut (fun c => mem_ins (leave_bef h hk)) (nod_ins (hl.nod p) ?_)
  intro hm
  have := (hl.kid _ _ hm).2.2
  rw [h0] at this
  exact h.ne0 hk.hp this.symm
end
theorem out_find (s : List Int) (l : List Nd) (y : Int) : find (outA s l) y = if y ∈ s then none else find l y := by
  unfold outA
  rw [find_filter l (fun y => !decide (y ∈ s))]
  by_cases e : y ∈ s <;> simp [e]
theorem out_has (s : List Int) (l : List Nd) (y : Int) : hasL (outA s l) y = true ↔ hasL l y = true ∧ y ∉ s := by
  unfold hasL
  rw [out_find]
  by_cases e : y ∈ s <;> simp [e]
theorem gone_tr {l : List Nd} {i : Int} (h : Tr (fun y => hasL l y = true) (parOf l) (kidsOf l)) (hi : hasL l i = true) : Tr (fun y => hasL (goneL l i) y = true) (parOf (goneL l i)) (kidsOf (goneL l i)) := by
  have hl := leave_tr (i := i) h
  have h0 : parOf (leaveL l i) i = 0 := by rw [leave_par h, setF_same]
  have hb : Hb (kidsOf (leaveL l i)) ((leaveL l i).length + 1) i := by
    have := hl.hb_all (L := idsOf (leaveL l i)) (fun y hy => has_ids.1 hy) (y := i) (by rw [leave_has]; exact hi)
    simpa [idsOf] using this
  have e : (fun y => hasL (goneL l i) y = true) = fun y => hasL (leaveL l i) y = true ∧ ¬ y ∈ below (leaveL l i) i := by
    funext y
    unfold goneL
    exact propext (out_has _ _ _)
  rw [e]
  refine hl.go (i := i) (fun y => y ∈ below (leaveL l i) i) h0 (fun x c hx hc => sub_kid _ _ _ _ hb hx hc) (fun c hc hne => hl.sub_par _ _ _ hb hc hne) ?_ ?_ ?_ ?_
  all_goals intro y hy
  · unfold goneL parOf; rw [out_find, if_pos hy]
  · unfold goneL parOf; rw [out_find, if_neg hy]
  · unfold goneL kidsOf; rw [out_find, if_pos hy]
  · unfold goneL kidsOf; rw [out_find, if_neg hy]
end Go.Proofs.Ytfjnbjpenibpkaa.P5
