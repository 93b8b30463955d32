/- Trees that are built, plain: the changes, one behind the other, up to the first that fails; the tree of a node; what was built is told as it was. No condition. -/
import Derived.Test.YtbdcbjeeaebfeaaM10
import Derived.Test.YtbdcbjeeaebfeaaM26
set_option linter.unusedVariables false
set_option linter.unusedSimpArgs false
namespace Go.Proofs.Ytbdcbjeeaebfeaa.P8
open Go.RowKit Kd P4 P5

/-! ### What is done -/
def rMake (i : Int) (t : PT) : Rc := ⟨1, i, 0, 0, t.tag, t.txt, t.key, []⟩
def rPut (i p b : Int) : Rc := ⟨2, i, p, b, ⟨#[]⟩, ⟨#[]⟩, ⟨#[]⟩, []⟩
def rAttrs (i : Int) (a : List P3.At) : Rc := ⟨4, i, 0, 0, ⟨#[]⟩, ⟨#[]⟩, ⟨#[]⟩, a⟩
/-- what was done, an error's number, the document then -/
structure Ran where
  done : List Rc
  err : Int
  d : D
def runR (d : D) : List Rc → Ran
  | [] => ⟨[], 0, d⟩
  | r :: l => if (applyD d r).1 = 0 then ⟨r :: (runR (applyD d r).2 l).done, (runR (applyD d r).2 l).err, (runR (applyD d r).2 l).d⟩ else ⟨[], (applyD d r).1, (applyD d r).2⟩
def headR (i p b : Int) (t : PT) : List Rc := rMake i t :: rPut i p b :: (if t.attrs.isEmpty then [] else [rAttrs i t.attrs])
def Ran.on (a b : Ran) : Ran := ⟨a.done ++ b.done, b.err, b.d⟩
mutual
def buildP (d : D) (p b : Int) : PT → Ran
  | .mk tag txt key attrs kids =>
    if (runR d (headR (d.n + 1) p b (.mk tag txt key attrs kids))).err = 0 then (runR d (headR (d.n + 1) p b (.mk tag txt key attrs kids))).on (buildL (runR d (headR (d.n + 1) p b (.mk tag txt key attrs kids))).d (d.n + 1) kids)
    else runR d (headR (d.n + 1) p b (.mk tag txt key attrs kids))
def buildL (d : D) (p : Int) : List PT → Ran
  | [] => ⟨[], 0, d⟩
  | t :: l => if (buildP d p 0 t).err = 0 then (buildP d p 0 t).on (buildL (buildP d p 0 t).d p l) else buildP d p 0 t
end
theorem buildP_eq (d : D) (p b : Int) (t : PT) : buildP d p b t = if (runR d (headR (d.n + 1) p b t)).err = 0 then (runR d (headR (d.n + 1) p b t)).on (buildL (runR d (headR (d.n + 1) p b t)).d (d.n + 1) t.kids) else runR d (headR (d.n + 1) p b t) := by
  cases t
  rw [buildP]
  rfl
/-- the identity that is told -/
def idP (d : D) (p b : Int) (t : PT) : Int := if (buildP d p b t).err = 0 then d.n + 1 else 0

/-! ### What stays as it must be -/
theorem runR_wf : ∀ (l : List Rc) {d : D}, WF d → WF (runR d l).d
  | [], _, h => h
  | r :: l, d, h => by
    rw [runR]
    split
    · exact runR_wf l (wf_apply h r)
    · exact wf_apply h r
theorem runR_code : ∀ (l : List Rc) (d : D), 0 ≤ (runR d l).err ∧ (runR d l).err ≤ 13
  | [], _ => by simp [runR]
  | r :: l, d => by
    rw [runR]
    split
    · exact runR_code l _
    · exact apply_code d r
theorem put_n (d : D) (i p b : Int) : (putD d i p b).2.n = d.n := by unfold putD; split <;> rfl
theorem attrs_n (d : D) (i : Int) (a : List P3.At) : (attrsD d i a).2.n = d.n := by
  unfold attrsD
  split
  · rfl
  split
  · rfl
  split <;> rfl
theorem apply_put (d : D) (i p b : Int) : applyD d (rPut i p b) = putD d i p b := by
  unfold applyD rPut
  simp
theorem apply_attrs (d : D) (i : Int) (a : List P3.At) : applyD d (rAttrs i a) = attrsD d i a := by
  unfold applyD rAttrs
  simp
theorem rPut_n (d : D) (i p b : Int) : (applyD d (rPut i p b)).2.n = d.n := by
  rw [apply_put]
  exact put_n _ _ _ _
theorem rAttrs_n (d : D) (i : Int) (a : List P3.At) : (applyD d (rAttrs i a)).2.n = d.n := by
  rw [apply_attrs]
  exact attrs_n _ _ _
theorem head_n (d : D) (p b : Int) (t : PT) : d.n ≤ (runR d (headR (d.n + 1) p b t)).d.n ∧ (runR d (headR (d.n + 1) p b t)).d.n ≤ d.n + 1 := by
  have h1 := apply_n d (rMake (d.n + 1) t)
  have h2 := rPut_n (applyD d (rMake (d.n + 1) t)).2 (d.n + 1) p b
  unfold headR
  rw [runR]
  split
  · rw [runR]
    split
    · split
      · simp only [runR]; omega
      · have h3 := rAttrs_n (applyD (applyD d (rMake (d.n + 1) t)).2 (rPut (d.n + 1) p b)).2 (d.n + 1) t.attrs
        rw [runR]
        split
        · simp only [runR]; omega
        · show d.n ≤ (applyD _ _).2.n ∧ (applyD _ _).2.n ≤ _
          omega
    · show d.n ≤ (applyD _ _).2.n ∧ (applyD _ _).2.n ≤ _
      omega
  · exact h1
/-- a property of documents that each change leaves, and building, too -/
theorem build_keep (t : PT) : ∀ (d : D) (p b : Int), (WF d → WF (buildP d p b t).d) ∧ (0 ≤ (buildP d p b t).err ∧ (buildP d p b t).err ≤ 13) ∧ d.n ≤ (buildP d p b t).d.n ∧ (buildP d p b t).d.n ≤ d.n + countP t := by
  induction t using PT.ind with
  | h tag txt key attrs kids ih =>
    have key' : ∀ (l : List PT), (∀ k ∈ l, k ∈ kids) → ∀ (d : D) (p : Int), (WF d → WF (buildL d p l).d) ∧ (0 ≤ (buildL d p l).err ∧ (buildL d p l).err ≤ 13) ∧ d.n ≤ (buildL d p l).d.n ∧ (buildL d p l).d.n ≤ d.n + countL l := by
      intro l
      induction l with
      | nil => intro _ d p; simp [buildL, countL]
      | cons a l ihl =>
        intro hl d p
        obtain ⟨a1, a2, a3, a4⟩ := ih a (hl a (by simp)) d p 0
        obtain ⟨b1, b2, b3, b4⟩ := ihl (fun k hk => hl k (by simp [hk])) (buildP d p 0 a).d p
        rw [buildL, countL]
        split
        · exact ⟨fun h => b1 (a1 h), b2, Int.le_trans a3 b3, by show (buildL _ _ _).d.n ≤ _; omega⟩
        · exact ⟨a1, a2, a3, by omega⟩
    intro d p b
    have hn := head_n d p b (.mk tag txt key attrs kids)
    have hc := runR_code (headR (d.n + 1) p b (.mk tag txt key attrs kids)) d
    rw [buildP, countP]
    split
    · obtain ⟨b1, b2, b3, b4⟩ := key' kids (fun _ h => h) (runR d (headR (d.n + 1) p b (.mk tag txt key attrs kids))).d (d.n + 1)
      exact ⟨fun h => b1 (runR_wf _ h), b2, Int.le_trans hn.1 b3, by show (buildL _ _ _).d.n ≤ _; omega⟩
    · exact ⟨fun h => runR_wf _ h, hc, hn.1, by omega⟩
theorem buildL_keep : ∀ (l : List PT) (d : D) (p : Int), (WF d → WF (buildL d p l).d) ∧ (0 ≤ (buildL d p l).err ∧ (buildL d p l).err ≤ 13) ∧ d.n ≤ (buildL d p l).d.n ∧ (buildL d p l).d.n ≤ d.n + countL l
  | [], d, p => by simp [buildL, countL]
  | a :: l, d, p => by
    obtain ⟨a1, a2, a3, a4⟩ := build_keep a d p 0
    obtain ⟨b1, b2, b3, b4⟩ := buildL_keep l (buildP d p 0 a).d p
    rw [buildL, countL]
    split
    · exact ⟨fun h => b1 (a1 h), b2, Int.le_trans a3 b3, by show (buildL _ _ _).d.n ≤ _; omega⟩
    · exact ⟨a1, a2, a3, by omega⟩

/-! ### The tree of a node -/
def treeP (l : List Nd) : Nat → Int → PT
  | 0, _ => .mk ⟨#[]⟩ ⟨#[]⟩ ⟨#[]⟩ [] []
  | f + 1, i => match find l i with
    | none => .mk ⟨#[]⟩ ⟨#[]⟩ ⟨#[]⟩ [] []
    | some nd => .mk nd.tag nd.txt nd.key nd.attrs (nd.kids.map (treeP l f))
mutual
/-- t is told of i; all that is below it is behind lo -/
def isT (l : List Nd) (lo : Int) (i : Int) : PT → Prop
  | .mk tag txt key attrs kids => lo < i ∧ ∃ nd, find l i = some nd ∧ nd.tag = tag ∧ nd.txt = txt ∧ nd.key = key ∧ nd.attrs = attrs ∧ isL l lo nd.kids kids
def isL (l : List Nd) (lo : Int) : List Int → List PT → Prop
  | [], [] => True
  | c :: cs, k :: ks => isT l lo c k ∧ isL l lo cs ks
  | [], _ :: _ => False
  | _ :: _, [] => False
end
theorem isT_kept {l l' : List Nd} {lo lo' : Int} (hlo : lo' ≤ lo) (h : ∀ y nd, lo < y → find l y = some nd → find l' y = some nd) (t : PT) : ∀ i, isT l lo i t → isT l' lo' i t := by
  induction t using PT.ind with
  | h tag txt key attrs kids ih =>
    have key' : ∀ (m : List PT), (∀ k ∈ m, k ∈ kids) → ∀ cs, isL l lo cs m → isL l' lo' cs m := by
      intro m
      induction m with
      | nil => intro _ cs hc; cases cs <;> simp_all [isL]
      | cons a m ihm =>
        intro hm cs hc
        cases cs with
        | nil => simp [isL] at hc
        | cons c cs =>
          rw [isL] at hc ⊢
          exact ⟨ih a (hm a (by simp)) c hc.1, ihm (fun k hk => hm k (by simp [hk])) cs hc.2⟩
    intro i hi
    rw [isT] at hi ⊢
    obtain ⟨h0, nd, h1, h2, h3, h4, h5, h6⟩ := hi
    exact ⟨by omega, nd, h i nd h0 h1, h2, h3, h4, h5, key' kids (fun _ h => h) _ h6⟩
theorem isL_kept {l l' : List Nd} {lo lo' : Int} (hlo : lo' ≤ lo) (h : ∀ y nd, lo < y → find l y = some nd → find l' y = some nd) : ∀ (m : List PT) (cs : List Int), isL l lo cs m → isL l' lo' cs m
  | [], [], _ => by simp [isL]
  | [], _ :: _, hc => by simp [isL] at hc
  | _ :: _, [], hc => by simp [isL] at hc
  | a :: m, c :: cs, hc => by
    rw [isL] at hc ⊢
    exact ⟨isT_kept hlo h a c hc.1, isL_kept hlo h m cs hc.2⟩
theorem tree_is {l : List Nd} {lo : Int} (t : PT) : ∀ i f, countP t ≤ f → isT l lo i t → treeP l f i = t := by
  induction t using PT.ind with
  | h tag txt key attrs kids ih =>
    have key' : ∀ (m : List PT), (∀ k ∈ m, k ∈ kids) → ∀ cs f, countL m ≤ f → isL l lo cs m → cs.map (treeP l f) = m := by
      intro m
      induction m with
      | nil => intro _ cs f _ hc; cases cs <;> simp_all [isL]
      | cons a m ihm =>
        intro hm cs f hf hc
        rw [countL] at hf
        cases cs with
        | nil => simp [isL] at hc
        | cons c cs =>
          rw [isL] at hc
          rw [List.map_cons, ih a (hm a (by simp)) c f (by omega) hc.1, ihm (fun k hk => hm k (by simp [hk])) cs f (by omega) hc.2]
    intro i f hf hi
    rw [isT] at hi
    rw [countP] at hf
    obtain ⟨h0, nd, h1, h2, h3, h4, h5, h6⟩ := hi
    cases f with
    | zero => omega
    | succ f =>
      rw [treeP, h1]
      show PT.mk nd.tag nd.txt nd.key nd.attrs (nd.kids.map (treeP l f)) = _
      rw [h2, h3, h4, h5, key' kids (fun _ h => h) _ f (by omega) h6]

/-! ### What was built -/
def addKs (p : Int) (ids : List Int) (x : Nd) : Nd := if x.id = p then withKids (fun l => l ++ ids) x else x
theorem addKs_nil (p : Int) (x : Nd) : addKs p [] x = x := by
  unfold addKs withKids
  split <;> simp
theorem addKs_ne {p : Int} {ids : List Int} {x : Nd} (h : x.id ≠ p) : addKs p ids x = x := by unfold addKs; rw [if_neg h]
theorem addKs_id (p : Int) (ids : List Int) (x : Nd) : (addKs p ids x).id = x.id := by unfold addKs; split <;> rfl
theorem addKs_tag (p : Int) (ids : List Int) (x : Nd) : (addKs p ids x).tag = x.tag := by unfold addKs; split <;> rfl
theorem addKs_two (p : Int) (a b : List Int) (x : Nd) : addKs p b (addKs p a x) = addKs p (a ++ b) x := by
  by_cases h : x.id = p
  · unfold addKs
    rw [if_pos h, if_pos (show (withKids (fun l => l ++ a) x).id = p from h), if_pos h]
    simp [withKids]
  · rw [addKs_ne h, addKs_ne h, addKs_ne h]
structure Built (d : D) (p : Int) (ids : List Int) (cnt : Nat) (d' : D) : Prop where
  wf : WF d'
  n : d'.n = d.n + cnt
  R : d'.R = d.R
  len : d'.l.length = d.l.length + cnt
  old : ∀ y, y ≤ d.n → find d'.l y = (find d.l y).map (addKs p ids)
theorem Built.same {d : D} (h : WF d) (p : Int) : Built d p [] 0 d :=
  ⟨h, by simp, rfl, by simp, fun y _ => by
    rw [show addKs p [] = id from funext fun x => addKs_nil p x]
    simp⟩
theorem Built.tag {d d' : D} {p : Int} {ids : List Int} {cnt : Nat} (h : Built d p ids cnt d') {y : Int} (hy : y ≤ d.n) : tagOf d'.l y = tagOf d.l y := by
  unfold tagOf
  rw [h.old y hy]
  cases find d.l y with
  | none => rfl
  | some x => exact addKs_tag p ids x
theorem Built.has {d d' : D} {p : Int} {ids : List Int} {cnt : Nat} (h : Built d p ids cnt d') {y : Int} (hy : y ≤ d.n) : hasL d'.l y = hasL d.l y := by
  unfold hasL
  rw [h.old y hy]
  cases find d.l y <;> rfl
theorem may_make {t : PT} (h : mayP t = true) : mayMake t.tag t.txt t.key = true := by
  cases t with
  | mk tag txt key attrs kids =>
    rw [mayP] at h
    show mayMake tag txt key = true
    unfold mayMake
    by_cases e : tag.toList = []
    · rw [if_pos (by simp [e])] at h
      rw [if_pos e]
      simp only [Bool.and_eq_true, List.isEmpty_iff] at h
      simp [h.1.1.1, h.1.1.2]
    · rw [if_neg (by simpa using e)] at h
      rw [if_neg e]
      simp only [Bool.and_eq_true, List.isEmpty_iff] at h
      simp [h.1.1.1.1.1, h.1.1.1.1.2, h.1.1.2]
theorem make_ok {d : D} {t : PT} (hm : mayP t = true) (hR : d.l.length < d.R) : applyD d (rMake (d.n + 1) t) = (0, { d with l := d.l ++ [newN (d.n + 1) t.tag t.txt t.key], n := d.n + 1 }) := by
  unfold applyD
  rw [if_pos (show (rMake (d.n + 1) t).op = 1 from rfl)]
  unfold makeD
  rw [if_neg, if_neg (by omega)]
  · rfl
  · rintro (e | e)
    · exact e rfl
    · rw [show mayMake (rMake (d.n + 1) t).tag (rMake (d.n + 1) t).txt (rMake (d.n + 1) t).key = true from may_make hm] at e
      cases e
section
variable {d : D} {p : Int} {tag txt key : ByteArray}
theorem new_find (h : WF d) (y : Int) : find (d.l ++ [newN (d.n + 1) tag txt key]) y = if y = d.n + 1 then some (newN (d.n + 1) tag txt key) else find d.l y := find_new (l := d.l) (x := newN (d.n + 1) tag txt key) h.next y
theorem new_par (h : WF d) : parOf (d.l ++ [newN (d.n + 1) tag txt key]) = parOf d.l := by
  funext y
  unfold parOf
  rw [new_find h]
  by_cases e : y = d.n + 1
  · have e0 : find d.l y = none := by rw [e]; simpa [hasL] using h.next
    rw [if_pos e, e0]
    rfl
  · rw [if_neg e]
theorem put_new (h : WF d) (hp : hasL d.l p = true) (hk : noKids (tagOf d.l p) = false) : PutOk (d.l ++ [newN (d.n + 1) tag txt key]) (d.n + 1) p 0 := by
  have hpn := h.pos hp
  have h0 := h.n0
  have fp : find (d.l ++ [newN (d.n + 1) tag txt key]) p = find d.l p := by rw [new_find h, if_neg (by omega)]
  refine ⟨?_, ?_, .inl rfl, ?_, by omega, ?_⟩
  · unfold hasL
    rw [new_find h, if_pos rfl]
    rfl
  · unfold hasL
    rw [fp]
    exact hp
  · unfold inside
    rw [decide_eq_false_iff_not]
    intro hm
    obtain ⟨j, hj, _⟩ := up_it _ _ _ hm
    rw [new_par h] at hj
    have := h.tr.h_it hp j (by rw [hj]; omega)
    rw [hj] at this
    have hnx := h.next
    rw [this] at hnx
    cases hnx
  · unfold tagOf
    rw [fp]
    exact hk
theorem put_newL (h : WF d) : putL (d.l ++ [newN (d.n + 1) tag txt key]) (d.n + 1) p 0 = upd (upd (d.l ++ [newN (d.n + 1) tag txt key]) p (withKids fun l => l ++ [d.n + 1])) (d.n + 1) (withPar p) := by
  have e : leaveL (d.l ++ [newN (d.n + 1) tag txt key]) (d.n + 1) = d.l ++ [newN (d.n + 1) tag txt key] := by
    unfold leaveL
    rw [if_pos]
    unfold parOf
    rw [new_find h, if_pos rfl]
    rfl
  unfold putL
  rw [e]
  rfl
end
theorem head_ok {d : D} {p : Int} {t : PT} (h : WF d) (hp : hasL d.l p = true) (hk : noKids (tagOf d.l p) = false) (hm : mayP t = true) (hR : d.l.length < d.R) (ha : P3.mayA t.attrs = true ∧ t.tag.toList ≠ [] ∨ t.attrs = []) :
    ∃ d1, runR d (headR (d.n + 1) p 0 t) = ⟨headR (d.n + 1) p 0 t, 0, d1⟩ ∧ d1.n = d.n + 1 ∧ d1.R = d.R ∧ d1.l.length = d.l.length + 1 ∧ find d1.l (d.n + 1) = some ⟨d.n + 1, p, t.tag, t.txt, t.key, t.attrs, [], 0⟩ ∧ ∀ y, y ≠ d.n + 1 → find d1.l y = (find d.l y).map (addKs p [d.n + 1]) := by
  have hpn := h.pos hp
  have hput := put_new (tag := t.tag) (txt := t.txt) (key := t.key) h hp hk
  have e2 : applyD { d with l := d.l ++ [newN (d.n + 1) t.tag t.txt t.key], n := d.n + 1 } (rPut (d.n + 1) p 0) = (0, { d with l := putL (d.l ++ [newN (d.n + 1) t.tag t.txt t.key]) (d.n + 1) p 0, n := d.n + 1 }) := by
    rw [apply_put]
    unfold putD
    rw [if_pos hput.ok]
  obtain ⟨l2, hl2⟩ : ∃ l2, putL (d.l ++ [newN (d.n + 1) t.tag t.txt t.key]) (d.n + 1) p 0 = l2 := ⟨_, rfl⟩
  have f2 : ∀ y, find l2 y = ((find (d.l ++ [newN (d.n + 1) t.tag t.txt t.key]) y).map fun x => if x.id = p then withKids (fun l => l ++ [d.n + 1]) x else x).map fun x => if x.id = d.n + 1 then withPar p x else x := by
    intro y
    rw [← hl2, put_newL h, find_upd _ _ (withPar p) (fun _ => rfl), find_upd _ _ (withKids fun l => l ++ [d.n + 1]) (fun _ => rfl)]
  have f2n : find l2 (d.n + 1) = some ⟨d.n + 1, p, t.tag, t.txt, t.key, [], [], 0⟩ := by
    rw [f2, new_find h, if_pos rfl]
    simp only [Option.map_some, newN]
    rw [if_neg (show ¬ (d.n + 1 = p) by omega), if_pos rfl]
    rfl
  have f2o : ∀ y, y ≠ d.n + 1 → find l2 y = (find d.l y).map (addKs p [d.n + 1]) := by
    intro y hy
    rw [f2, new_find h, if_neg hy]
    cases hf : find d.l y with
    | none => rfl
    | some x =>
      have hx := (find_some hf).2
      simp only [Option.map_some]
      unfold addKs
      by_cases e : x.id = p
      · rw [if_pos e, if_neg (show ¬ ((withKids (fun l => l ++ [d.n + 1]) x).id = d.n + 1) by show ¬ (x.id = d.n + 1); omega)]
      · rw [if_neg e, if_neg (by omega)]
  have len2 : l2.length = d.l.length + 1 := by
    have := len_ids (put_ids (l := d.l ++ [newN (d.n + 1) t.tag t.txt t.key]) (i := d.n + 1) (p := p) (b := 0))
    rw [hl2] at this
    rw [this]
    simp
  rw [hl2] at e2
  by_cases he : t.attrs = []
  · refine ⟨{ d with l := l2, n := d.n + 1 }, ?_, rfl, rfl, len2, by rw [he]; exact f2n, f2o⟩
    unfold headR
    rw [if_pos (by simp [he]), runR, make_ok hm hR, if_pos rfl, runR, e2, if_pos rfl]
    rfl
  · have hta := ha.resolve_right he
    have e3 : applyD { d with l := l2, n := d.n + 1 } (rAttrs (d.n + 1) t.attrs) = (0, { d with l := upd l2 (d.n + 1) (withAttrs t.attrs), n := d.n + 1 }) := by
      rw [apply_attrs]
      unfold attrsD
      have c1 : hasL l2 (d.n + 1) = true := by unfold hasL; rw [f2n]; rfl
      have c2 : tagOf l2 (d.n + 1) = t.tag := by unfold tagOf; rw [f2n]
      show (if hasL l2 (d.n + 1) = false then _ else if (tagOf l2 (d.n + 1)).toList = [] then _ else if P3.mayA t.attrs = false then _ else _) = _
      rw [c1, c2, if_neg (by simp), if_neg hta.2, hta.1, if_neg (by simp)]
    refine ⟨{ d with l := upd l2 (d.n + 1) (withAttrs t.attrs), n := d.n + 1 }, ?_, rfl, rfl, by show (upd l2 _ _).length = _; rw [upd_len]; exact len2, ?_, fun y hy => ?_⟩
    · unfold headR
      rw [if_neg (by simpa using he), runR, make_ok hm hR, if_pos rfl, runR, e2, if_pos rfl, runR, e3, if_pos rfl]
      rfl
    · show find (upd l2 _ _) _ = _
      rw [find_upd _ _ (withAttrs t.attrs) (fun _ => rfl), f2n, Option.map_some, if_pos rfl]
      rfl
    · show find (upd l2 _ _) _ = _
      rw [find_upd _ _ (withAttrs t.attrs) (fun _ => rfl), f2o y hy]
      cases hf : find d.l y with
      | none => rfl
      | some x =>
        have hx := (find_some hf).2
        simp only [Option.map_some]
        rw [if_neg (by rw [addKs_id]; omega)]
theorem may_attrs {t : PT} (hm : mayP t = true) : P3.mayA t.attrs = true ∧ t.tag.toList ≠ [] ∨ t.attrs = [] := by
  cases t with
  | mk tag txt key attrs kids =>
    rw [mayP] at hm
    by_cases e : tag.toList = []
    · rw [if_pos (by simp [e])] at hm
      simp only [Bool.and_eq_true, List.isEmpty_iff] at hm
      exact .inr hm.1.2
    · rw [if_neg (by simpa using e)] at hm
      simp only [Bool.and_eq_true] at hm
      exact .inl ⟨hm.1.1.1.2, e⟩
theorem may_kids {t : PT} (hm : mayP t = true) (hk : t.kids ≠ []) : mayL t.kids = true ∧ noKids t.tag = false := by
  cases t with
  | mk tag txt key attrs kids =>
    have hk' : kids ≠ [] := hk
    rw [mayP] at hm
    by_cases e : tag.toList = []
    · rw [if_pos (by simp [e])] at hm
      simp only [Bool.and_eq_true, List.isEmpty_iff] at hm
      exact absurd hm.2 hk'
    · rw [if_neg (by simpa using e)] at hm
      simp only [Bool.and_eq_true, Bool.not_eq_true', Bool.and_eq_false_iff] at hm
      refine ⟨hm.2, ?_⟩
      show noKids tag = false
      unfold noKids
      rcases hm.1.2 with h | h
      · simp [e, h]
      · simp at h; exact absurd h hk'
theorem built (t : PT) : ∀ (d : D) (p : Int), WF d → hasL d.l p = true → noKids (tagOf d.l p) = false → mayP t = true → d.l.length + countP t ≤ d.R →
    (buildP d p 0 t).err = 0 ∧ Built d p [d.n + 1] (countP t) (buildP d p 0 t).d ∧ isT (buildP d p 0 t).d.l d.n (d.n + 1) t := by
  induction t using PT.ind with
  | h tag txt key attrs kids ih =>
    have key' : ∀ (m : List PT), (∀ k ∈ m, k ∈ kids) → ∀ (d : D) (p : Int), WF d → hasL d.l p = true → noKids (tagOf d.l p) = false → mayL m = true → d.l.length + countL m ≤ d.R →
        ∃ ids, (buildL d p m).err = 0 ∧ Built d p ids (countL m) (buildL d p m).d ∧ isL (buildL d p m).d.l d.n ids m := by
      intro m
      induction m with
      | nil => intro _ d p h _ _ _ _; exact ⟨[], by simp [buildL], by simpa [buildL, countL] using Built.same h p, by simp [isL]⟩
      | cons a m ihm =>
        intro hm d p h hp hk hmay hR
        rw [mayL, Bool.and_eq_true] at hmay
        rw [countL] at hR
        obtain ⟨a1, a2, a3⟩ := ih a (hm a (by simp)) d p h hp hk hmay.1 (by omega)
        have hpn := h.pos hp
        obtain ⟨ids, b1, b2, b3⟩ := ihm (fun k hk => hm k (by simp [hk])) (buildP d p 0 a).d p a2.wf (by rw [a2.has hpn.2]; exact hp) (by rw [a2.tag hpn.2]; exact hk) hmay.2 (by rw [a2.R, a2.len]; omega)
        have hn1 := a2.n
        refine ⟨(d.n + 1) :: ids, ?_, ?_, ?_⟩
        · rw [buildL, if_pos a1]; exact b1
        · rw [buildL, if_pos a1, countL]
          refine ⟨b2.wf, ?_, ?_, ?_, fun y hy => ?_⟩
          · show (buildL _ _ _).d.n = _
            rw [b2.n, a2.n]; simp; omega
          · show (buildL _ _ _).d.R = _
            rw [b2.R, a2.R]
          · show (buildL _ _ _).d.l.length = _
            rw [b2.len, a2.len]; omega
          · show find (buildL _ _ _).d.l y = _
            rw [b2.old y (by rw [hn1]; omega), a2.old y hy, Option.map_map]
            congr 1
            funext x
            exact addKs_two p [d.n + 1] ids x
        · rw [buildL, if_pos a1, isL]
          refine ⟨isT_kept (Int.le_refl _) (fun y nd hy hf => ?_) a _ a3, isL_kept (by rw [hn1]; omega) (fun y nd _ hf => hf) m ids b3⟩
          show find (buildL _ _ _).d.l y = _
          have hrng := a2.wf.rng nd (find_some hf).1
          have hid := (find_some hf).2
          rw [b2.old y (by omega), hf, Option.map_some, addKs_ne (by omega)]
    intro d p h hp hk hmay hR
    have hpn := h.pos hp
    rw [countP] at hR
    obtain ⟨d1, h1, h2, h3, h4, h5, h6⟩ := head_ok (t := .mk tag txt key attrs kids) h hp hk hmay (by omega) (may_attrs hmay)
    have hwf1 : WF d1 := by
      have := runR_wf (headR (d.n + 1) p 0 (.mk tag txt key attrs kids)) h
      rw [h1] at this
      exact this
    have e : buildP d p 0 (.mk tag txt key attrs kids) = (⟨headR (d.n + 1) p 0 (.mk tag txt key attrs kids), 0, d1⟩ : Ran).on (buildL d1 (d.n + 1) kids) := by
      rw [buildP, h1, if_pos rfl]
    obtain ⟨ids, b1, b2, b3⟩ : ∃ ids, (buildL d1 (d.n + 1) kids).err = 0 ∧ Built d1 (d.n + 1) ids (countL kids) (buildL d1 (d.n + 1) kids).d ∧ isL (buildL d1 (d.n + 1) kids).d.l d1.n ids kids := by
      by_cases hk0 : kids = []
      · subst hk0
        exact ⟨[], by simp [buildL], by simpa [buildL, countL] using Built.same hwf1 (d.n + 1), by simp [isL]⟩
      · obtain ⟨m1, m2⟩ := may_kids hmay hk0
        exact key' kids (fun _ h => h) d1 (d.n + 1) hwf1 (find_has h5) (by unfold tagOf; rw [h5]; exact m2) m1 (by rw [h3, h4]; omega)
    rw [e, countP]
    refine ⟨b1, ⟨b2.wf, ?_, ?_, ?_, fun y hy => ?_⟩, ?_⟩
    · show (buildL _ _ _).d.n = _
      rw [b2.n, h2]; simp; omega
    · show (buildL _ _ _).d.R = _
      rw [b2.R, h3]
    · show (buildL _ _ _).d.l.length = _
      rw [b2.len, h4]; omega
    · show find (buildL _ _ _).d.l y = _
      rw [b2.old y (by omega), h6 y (by omega), Option.map_map]
      cases hf : find d.l y with
      | none => rfl
      | some x =>
        have hx := (find_some hf).2
        simp only [Option.map_some, Function.comp_apply]
        rw [addKs_ne (p := d.n + 1) (by rw [addKs_id]; omega)]
    · rw [isT]
      refine ⟨by omega, ⟨d.n + 1, p, tag, txt, key, attrs, ids, 0⟩, ?_, rfl, rfl, rfl, rfl, isL_kept (by omega) (fun y nd _ hf => hf) kids ids b3⟩
      show find (buildL _ _ _).d.l _ = _
      rw [b2.old (d.n + 1) (by omega), h5]
      simp [addKs, withKids, PT.tag, PT.txt, PT.key, PT.attrs]
/-- what was built in a new document is told as it was -/
theorem back {t : PT} {R : Nat} (h1 : 1 ≤ R) (h2 : R ≤ 200) (hm : mayP t = true) (hc : 1 + countP t ≤ R) : (buildP (newD R) 1 0 t).err = 0 ∧ (buildP (newD R) 1 0 t).d.l.length = 1 + countP t ∧ hasL (buildP (newD R) 1 0 t).d.l 2 = true ∧ ∀ f, countP t ≤ f → treeP (buildP (newD R) 1 0 t).d.l f 2 = t := by
  have hwf := wf_newD h1 h2
  obtain ⟨a1, a2, a3⟩ := built t (newD R) 1 hwf hwf.root (by
    have e : tagOf (newD R).l 1 = ⟨#[114, 111, 111, 116]⟩ := rfl
    have hl : (⟨#[114, 111, 111, 116]⟩ : ByteArray).toList = [114, 111, 111, 116] := by rw [ByteArray.toList_eq]
    rw [e]
    unfold noKids
    rw [hl]
    decide) hm (by show 1 + countP t ≤ R; exact hc)
  refine ⟨a1, ?_, ?_, fun f hf => tree_is t 2 f hf a3⟩
  · rw [a2.len]; rfl
  · cases t with
    | mk tag txt key attrs kids =>
      rw [isT] at a3
      obtain ⟨_, nd, h, _⟩ := a3
      exact find_has h
end Go.Proofs.Ytbdcbjeeaebfeaa.P8
