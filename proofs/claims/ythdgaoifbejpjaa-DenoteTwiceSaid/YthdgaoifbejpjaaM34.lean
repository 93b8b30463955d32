/- The program's match, plainly: the places of one tag and key; what takes the first that is left, what takes one of its key. No condition but those stated. -/
import Derived.WideKeyEntry
import Derived.Test.YthdgaoifbejpjaaM13
import Derived.Test.YthdgaoifbejpjaaM29
set_option linter.unusedVariables false
set_option linter.unusedSimpArgs false
set_option linter.unusedVariables false
set_option linter.unusedSimpArgs false
namespace Go.Proofs.Ythdgaoifbejpjaa.P16
open Go.RowKit Kd P4 P5 P11 P12 P13 P14

def isK (t k : ByteArray) (o : Ol) : Bool := bq o.tag t && bq o.key k
def seekM (t k : ByteArray) : List Ol → Nat → Int
  | [], _ => -1
  | o :: l, i => if isK t k o then (i : Int) else seekM t k l (i + 1)
/-- the first place of a tag and key from i on -/
def nxM (old : List Ol) (t k : ByteArray) (i : Nat) : Int := seekM t k (old.drop i) i
theorem nxM_end {old : List Ol} {t k : ByteArray} {i : Nat} (h : old.length ≤ i) : nxM old t k i = -1 := by
  unfold nxM
  rw [List.drop_of_length_le h]
  rfl
theorem nxM_yes {old : List Ol} {t k : ByteArray} {i : Nat} (h : i < old.length) (hk : isK t k old[i] = true) : nxM old t k i = (i : Int) := by
  unfold nxM
  rw [List.drop_eq_getElem_cons h, seekM, if_pos hk]
theorem nxM_no {old : List Ol} {t k : ByteArray} {i : Nat} (h : i < old.length) (hk : isK t k old[i] = false) : nxM old t k i = nxM old t k (i + 1) := by
  unfold nxM
  rw [List.drop_eq_getElem_cons h, seekM, if_neg (by rw [hk]; decide)]
/-- none from i on, or the first one -/
theorem nxM_spec (old : List Ol) (t k : ByteArray) : ∀ (d i : Nat), old.length - i = d →
    (nxM old t k i = -1 ∧ ∀ j (h : j < old.length), i ≤ j → isK t k old[j] = false) ∨
    ∃ (j : Nat) (h : j < old.length), nxM old t k i = (j : Int) ∧ i ≤ j ∧ isK t k old[j] = true ∧ ∀ m (h : m < old.length), i ≤ m → m < j → isK t k old[m] = false
  | 0, i, hd => .inl ⟨nxM_end (by omega), fun j h hj => by omega⟩
  | d + 1, i, hd => by
    have hi : i < old.length := by omega
    cases hk : isK t k old[i] with
    | true => exact .inr ⟨i, hi, nxM_yes hi hk, Nat.le_refl _, hk, fun m _ h1 h2 => by omega⟩
    | false =>
      rw [nxM_no hi hk]
      rcases nxM_spec old t k d (i + 1) (by omega) with ⟨h1, h2⟩ | ⟨j, hj, h1, h2, h3, h4⟩
      · refine .inl ⟨h1, fun j h hj => ?_⟩
        by_cases e : j = i
        · subst e; exact hk
        · exact h2 j h (by omega)
      · refine .inr ⟨j, hj, h1, by omega, h3, fun m h hm hmj => ?_⟩
        by_cases e : m = i
        · subst e; exact hk
        · exact h4 m h (by omega) hmj
theorem nxM_range (old : List Ol) (t k : ByteArray) (i : Nat) : -1 ≤ nxM old t k i ∧ nxM old t k i < old.length := by
  rcases nxM_spec old t k _ i rfl with ⟨h1, _⟩ | ⟨j, hj, h1, _⟩ <;> omega
/-! ### What none takes, what the first takes -/
theorem scan_none {w : PW} {old : List Ol} {left : List Bool} (h : ∀ j : Nat, left[j]? = some true → ∀ o : Ol, old[j]? = some o → ∀ f, takesW w o f = false) : ∀ m, (scanM w old left m).1 = -1
  | 0 => rfl
  | m + 1 => by
    have ih := scan_none h m
    rw [scanM, if_neg (by omega)]
    split
    · rename_i o ho hl
      simp only
      rw [h m hl o ho, if_neg (by decide)]
    · exact ih
theorem scan_none_to {w : PW} {old : List Ol} {left : List Bool} {n : Nat} (h : ∀ j : Nat, j < n → left[j]? = some true → ∀ o : Ol, old[j]? = some o → ∀ f, takesW w o f = false) : ∀ m, m ≤ n → (scanM w old left m).1 = -1
  | 0, _ => rfl
  | m + 1, hm => by
    have ih := scan_none_to h m (by omega)
    rw [scanM, if_neg (by omega)]
    split
    · rename_i o ho hl
      simp only
      rw [h m (by omega) hl o ho, if_neg (by decide)]
    · exact ih
/-- the first one that fits, whatever stands ahead -/
theorem scan_first {w : PW} {old : List Ol} {left : List Bool} {j m : Nat} {o : Ol} (h : ∀ i : Nat, i < j → left[i]? = some true → ∀ o : Ol, old[i]? = some o → ∀ f, takesW w o f = false) (hl : left[j]? = some true) (ho : old[j]? = some o) (ht : ∀ f, takesW w o f = true) (hm : j < m) :
    (scanM w old left m).1 = (j : Int) := by
  have h0 := scan_none_to h j (Nat.le_refl _)
  have h1 : (scanM w old left (j + 1)).1 = (j : Int) := by
    rw [scanM_left (by omega) ho hl, ht]
    rfl
  obtain ⟨d, rfl⟩ : ∃ d, m = j + 1 + d := ⟨m - (j + 1), by omega⟩
  rw [scanM_stays (by omega) d, h1]
theorem scan_gone {w : PW} {old : List Ol} {left : List Bool} {n : Nat} (h : ∀ i : Nat, i < n → left[i]? = some false) : ∀ m, m ≤ n → scanM w old left m = (-1, true)
  | 0, _ => rfl
  | m + 1, hm => by
    have ih := scan_gone (w := w) (old := old) h m (by omega)
    rw [scanM_gone (by rw [ih]; decide) (h m (by omega)), ih]
theorem scan_rest {w : PW} {old : List Ol} {left : List Bool} {m : Nat} (hw : ∀ o, takesW w o false = false) (h : scanM w old left m = (-1, false)) : ∀ j, scanM w old left (m + j) = (-1, false)
  | 0 => h
  | j + 1 => by
    have ih := scan_rest hw h j
    rw [← Nat.add_assoc, scanM, if_neg (by rw [ih]; decide)]
    split
    · rename_i o ho hl
      rw [ih, hw, if_neg (by decide)]
    · exact ih
/-- what takes the first one that is left alone -/
theorem scan_front {w : PW} {old : List Ol} {left : List Bool} {F n : Nat} {o : Ol} (hw : ∀ o, takesW w o false = false) (h : ∀ i : Nat, i < F → left[i]? = some false) (hl : left[F]? = some true) (ho : old[F]? = some o) (hn : F < n) :
    (scanM w old left n).1 = if takesW w o true then (F : Int) else -1 := by
  have h0 := scan_gone (w := w) (old := old) h F (Nat.le_refl _)
  have h1 : scanM w old left (F + 1) = (if takesW w o true then (F : Int) else -1, false) := by
    rw [scanM_left (by rw [h0]; decide) ho hl, h0]
  obtain ⟨d, rfl⟩ : ∃ d, n = F + 1 + d := ⟨n - (F + 1), by omega⟩
  cases ht : takesW w o true with
  | true =>
    rw [ht] at h1
    simp only [if_true] at h1 ⊢
    rw [scanM_stays (by rw [h1]; simp) d, h1]
  | false =>
    rw [ht] at h1
    simp only [Bool.false_eq_true, if_false] at h1 ⊢
    rw [scan_rest hw h1 d]
/-! ### Kind by kind -/
theorem takes_key {w : PW} (h1 : w.kind = 1) (hk : w.key.toList.isEmpty = false) (o : Ol) (f : Bool) : takesW w o f = isK w.tag w.key o := by
  unfold takesW isK
  rw [if_pos h1, hk]
  simp
theorem takes_first {w : PW} (h : ¬ (w.kind = 1 ∧ w.key.toList.isEmpty = false)) (o : Ol) : takesW w o false = false := by
  unfold takesW
  split
  · rename_i h1
    cases hk : w.key.toList.isEmpty with
    | false => exact absurd ⟨h1, hk⟩ h
    | true => simp
  · split
    · rfl
    · split <;> rfl
/-! ### All that are left, one behind the other -/
theorem clear_gone {left : List Bool} {q : Nat} : ∀ d, (∀ i, q ≤ i → i < q + d → left[i]? = some false) → q + d ≤ left.length → clearM left (q + d) = clearM left q ∧ idxM left (q + d) = idxM left q
  | 0, _, _ => ⟨rfl, rfl⟩
  | d + 1, h, hl => by
    have ih := clear_gone d (fun i h1 h2 => h i h1 (by omega)) (by omega)
    have hf := h (q + d) (by omega) (by omega)
    rw [← Nat.add_assoc, ← clearM_no (by omega) hf, idxM_no hf]
    exact ih
theorem clear_get {left : List Bool} {q i : Nat} (h : q ≤ i) (hl : q ≤ left.length) : (clearM left q)[i]? = left[i]? := by
  unfold clearM
  rw [List.getElem?_append_right (by simpa using h), List.length_replicate, List.getElem?_drop]
  congr 1
  omega
theorem clear_lo {left : List Bool} {q i : Nat} (h : i < q) (hl : q ≤ left.length) : (clearM left q)[i]? = some false := by
  unfold clearM
  rw [List.getElem?_append_left (by simpa using h), List.getElem?_replicate, if_pos h]
theorem lf_nat {left : List Bool} {i n : Nat} (hl : left.length = n) (hi : i < n) (h : left[i]? ≠ some true) : left[i]? = some false := by
  rw [List.getElem?_eq_getElem (by omega)] at h ⊢
  cases hx : left[i]'(by omega) with
  | false => rfl
  | true => rw [hx] at h; exact absurd rfl h
theorem isK_iff {t k : ByteArray} {o : Ol} : isK t k o = true ↔ o.tag = t ∧ o.key = k := by
  have e : ∀ a b : ByteArray, a.toList = b.toList ↔ a = b := fun a b => ⟨fun h => by
    rw [ByteArray.toList_eq, ByteArray.toList_eq] at h
    obtain ⟨⟨a⟩⟩ := a
    obtain ⟨⟨b⟩⟩ := b
    simp only at h
    rw [h], fun h => by rw [h]⟩
  unfold isK bq
  rw [Bool.and_eq_true, beq_iff_eq, beq_iff_eq, e, e]
end Go.Proofs.Ythdgaoifbejpjaa.P16

/- Maps of the call's own: an entry that is taken and stored again ('m[k] = append(m[k], x)'); a number that no key is; how many entries there are at most. For any program. No condition but those stated. -/
set_option linter.unusedVariables false
set_option linter.unusedSimpArgs false
namespace Go.Proofs.Ythdgaoifbejpjaa.Mv
open Go.RowKit Kd Go.ChangeMaps Go.MapKept
open Go.Maps (Keyed)

section
variable {P : Program} {w w' : World} {k : TypeId} {b n s : Nat} {f : Lit → Option Value}
/-- there are as many entries as it counts -/
theorem MapIs.tight (h : MapIs P k w b n s f) : MapIs P k w b s s f := by
  obtain ⟨D, ⟨es, cl, hb, F, hs, hD⟩, h2, h3⟩ := h
  have : es.size ≤ s := by
    rw [← h2, hD, Maps.size_eq, length_sorted]
    simp
  exact ⟨D, ⟨es, cl, hb, F, this, hD⟩, h2, h3⟩
/-- a number that isn't one of the key's type is no key -/
theorem MapIs.look_out (h : MapIs P k w b n s f) {q : IntKind} (hk : P.underlying k = some (.int q)) {t e : TypeId} (ht : P.underlying t = some (.map k e)) {z : Value} (hz : (zeroValue e).run P w = .ok z w) {a : Int} (hw : (Lit.int q a).wf = false) (c : Bool) :
    (Instr.lookup t (.map (some b)) (.int q a) c).run P w = .ok (if c then .tuple #[z, .bool false] else z) w := by
  obtain ⟨D, ⟨es, cl, hb, F, _, _⟩, _, _⟩ := h
  have hpl : ∀ v, keyOf P k v = mapKey P k v := fun v => by simp [keyOf, hk]
  have hks : ∀ y ∈ es.toList, IsKey (.int q) y.key := fun y hy => by
    obtain ⟨l, hl⟩ := F.keys y hy
    rw [hpl] at hl
    obtain ⟨d, hd, h1, _⟩ := WideShapes.mapKey_isKey hl
    rw [hk] at hd
    injection hd with hd
    subst hd
    exact h1
  have hx : IsKey (.int q) (.int q a) := rfl
  rcases findNow_spec hx es.toList 0 hks with ⟨h1, h2⟩ | ⟨j, e0, h1, h2, h3⟩
  · simp [Instr.lookup, run_underlying ht, MapKept.run_getObj_map hb, run_checkKey hk hx, run_findKey hk h1, hz, Result.andThen]
  · exfalso
    obtain ⟨l, hl⟩ := F.keys e0 (List.mem_of_getElem? h2)
    rw [h3, hpl] at hl
    simp [mapKey, hk, hw] at hl
/-- a number: what lies under it -/
theorem MapIs.look_int (h : MapIs P k w b n s f) {q : IntKind} (hk : P.underlying k = some (.int q)) {t e : TypeId} (ht : P.underlying t = some (.map k e)) {z : Value} (hz : (zeroValue e).run P w = .ok z w) (a : Int) (ho : (Lit.int q a).wf = false → f (.int q a) = none) :
    (Instr.lookup t (.map (some b)) (.int q a) true).run P w = .ok (.tuple #[(f (.int q a)).getD z, .bool (f (.int q a)).isSome]) w := by
  cases hw : (Lit.int q a).wf with
  | true => exact h.look_ok (Maps.int_keyed hk) ht hz (Maps.keyOf_int_mk hk hw)
  | false =>
    rw [h.look_out hk ht hz hw true, ho hw]
    rfl
/-- an entry that was taken, not stored yet -/
def Half (P : Program) (t k : TypeId) (w : World) (b n s : Nat) (f : Lit → Option Value) (l : Lit) (st : Nat) : Prop :=
  ∃ es1 clock1, w.heap[b]? = some (.map es1 clock1) ∧ ∀ (w2 : World) (val : Value), w2.heap[b]? = some (.map es1 clock1) → ∃ es' clock', (Instr.entryStore t (.map (some b)) (goInt st) val).run P w2 = .ok () (setBlock w2 b (.map es' clock')) ∧
    ∀ f', PutF f f' l (some val) → ∀ w3 : World, w3.heap[b]? = some (.map es' clock') → MapIs P k w3 b (n + 1) (if (f l).isSome then s else s + 1) f'
theorem Half.kept {t : TypeId} {l : Lit} {st : Nat} (h : Half P t k w b n s f l st) (hb : w'.heap[b]? = w.heap[b]?) : Half P t k w' b n s f l st := by
  obtain ⟨es1, cl1, h1, h2⟩ := h
  exact ⟨es1, cl1, hb.trans h1, h2⟩
theorem Half.lt {t : TypeId} {l : Lit} {st : Nat} (h : Half P t k w b n s f l st) : b < w.heap.size := by
  obtain ⟨es1, cl1, h1, h2⟩ := h
  exact heap_lt h1
theorem Half.blk {t : TypeId} {l : Lit} {st : Nat} (h : Half P t k w b n s f l st) : ∃ es clock, w.heap[b]? = some (.map es clock) := by
  obtain ⟨es1, cl1, h1, h2⟩ := h
  exact ⟨es1, cl1, h1⟩
theorem grown_setBlock {es : Array MapEntry} {cl : Nat} {o' : Obj} (hb : w.heap[b]? = some (.map es cl)) : w.grownBy (setBlock w b o') (some b) :=
  ⟨rfl, rfl, rfl, by simp [setBlock], fun i _ hi => heap_setBlock_other hb _ (fun e => hi (by rw [e]))⟩
/-- the entry of a key is taken -/
theorem MapIs.entry (h : MapIs P k w b n s f) (K : WideMaps.KeyLaw P k) {t e : TypeId} (ht : P.underlying t = some (.map k e)) {z : Value} (hz : ∀ u : World, (zeroValue e).run P u = .ok z u) (hn : n < maxLen) {key : Value} {l : Lit} (hkey : keyOf P k key = some l) :
    ∃ (st : Nat) (w' : World), (Instr.mapEntry t (.map (some b)) key).run P w = .ok (.tuple #[(f l).getD z, goInt st]) w' ∧ Half P t k w' b n s f l st ∧ w.grownBy w' (some b) := by
  have h0 := h
  obtain ⟨D, ⟨es, cl, hb, F, hs, hD⟩, hsz, hf⟩ := h
  obtain ⟨v0, st, es1, cl1, hr, hv, hst⟩ := WideElems.entry_then_store K ht hz hb F hkey
  have hlook := h0.look (Keyed.of_law K) ht (hz w) hkey
  have hval : v0 = (f l).getD z := by
    obtain ⟨_, _, s3⟩ := F.stamped
    rcases Maps.fit_look false (Keyed.of_law K) ht (hz w) hb F hkey with ⟨hrun, hno, _⟩ | ⟨e1, y, he1, hk1, hrun, _⟩
    · rw [hlook] at hrun
      injection hrun with hrun
      rcases hv with ⟨e0, he0, hk0, _⟩ | ⟨_, hv0⟩
      · exact absurd hk0 (hno e0 he0)
      · rw [hv0]; exact hrun.symm
    · rw [hlook] at hrun
      injection hrun with hrun
      rcases hv with ⟨e0, he0, hk0, hv0⟩ | ⟨hno, _⟩
      · have : e0 = e1 := by
          rcases Classical.em (e0 = e1) with h | h
          · exact h
          · exfalso
            obtain ⟨i, hi, e2⟩ := List.getElem_of_mem he0
            obtain ⟨j, hj, e3⟩ := List.getElem_of_mem he1
            rcases Nat.lt_trichotomy i j with h4 | h4 | h4
            · exact (List.pairwise_iff_getElem.1 s3 i j (by simpa using hi) (by simpa using hj) h4) (by rw [List.getElem_map, List.getElem_map, e2, e3]; exact hk0.trans hk1.symm)
            · subst h4
              exact h (e2.symm.trans e3)
            · exact (List.pairwise_iff_getElem.1 s3 j i (by simpa using hj) (by simpa using hi) h4) (by rw [List.getElem_map, List.getElem_map, e2, e3]; exact hk1.trans hk0.symm)
        rw [hv0, this]
        exact hrun.symm
      · exact absurd hk1 (hno e1 he1)
  rw [hval] at hr
  refine ⟨st, _, hr, ⟨es1, cl1, heap_setBlock_same hb _, fun w2 val hw2 => ?_⟩, grown_setBlock hb⟩
  obtain ⟨es', cl', h1, h2⟩ := hst w2 val hw2
  refine ⟨es', cl', h1, fun f' hf' w3 hw3 => ?_⟩
  obtain ⟨w4, hr4, hm4, _⟩ := h0.store (Keyed.of_law K) ht hn (val := val) hkey hf'
  rw [h2] at hr4
  injection hr4 with _ hr4
  rw [← hr4] at hm4
  exact hm4.kept (hw3.trans (heap_setBlock_same hb _).symm)
/-- it is stored -/
theorem Half.store {t : TypeId} {l : Lit} {st : Nat} (h : Half P t k w b n s f l st) (val : Value) {f' : Lit → Option Value} (hf : PutF f f' l (some val)) :
    ∃ w', (Instr.entryStore t (.map (some b)) (goInt st) val).run P w = .ok () w' ∧ MapIs P k w' b (n + 1) (if (f l).isSome then s else s + 1) f' ∧ w.grownBy w' (some b) := by
  obtain ⟨es1, cl1, h1, h2⟩ := h
  obtain ⟨es', cl', h3, h4⟩ := h2 w val h1
  exact ⟨_, h3, h4 f' hf _ (heap_setBlock_same h1 _), grown_setBlock h1⟩
/-! ### At the operation, in a region that draws its order -/
variable {ops : Array Oper} {o : Oper} {act : Act} {Kk : Act → World → Prop} {Q : Exit → Act → World → Prop} {E : Prop}
/-- 'm[k]', taken to be stored again -/
theorem step_entry (hg : o.guard = none) (m x : Operand) {t e : TypeId} (hop : o.op = Op.mapEntry t m x) (K : WideMaps.KeyLaw P k) (ht : P.underlying t = some (.map k e)) {z : Value} (hz : ∀ u : World, (zeroValue e).run P u = .ok z u)
    (hm : act.eval m = .map (some b)) (h : MapIs P k w b n s f) (hn : n < maxLen) {key : Value} {l : Lit} (hx : act.eval x = key) (hkey : keyOf P k key = some l) {v0 : Value} (hv0 : (f l).getD z = v0)
    (hK : ∀ (st : Nat) (w' : World), Half P t k w' b n s f l st → w.grownBy w' (some b) → Kk (act.put o.dst (.tuple #[v0, .int .i64 st])) w') : if Region.wanted o (yielded ops act.tmps) = true then Oper.wp P o act w Kk Q else E := by
  subst hv0
  have hw : Region.wanted o (yielded ops act.tmps) = true := by simp [Region.wanted, hg]
  rw [if_pos hw]
  obtain ⟨st, w', hrun, r1, r2⟩ := h.entry K ht hz hn hkey
  unfold Oper.wp
  simp [execOp, hop, hm, hx, hrun, Result.andThen]
  exact hK st w' r1 r2
/-- the entry is stored -/
theorem step_entry_store (hg : o.guard = none) (m x v : Operand) {t : TypeId} (hop : o.op = Op.entryStore t m x v) {st : Nat} {l : Lit}
    (hm : act.eval m = .map (some b)) (hx : act.eval x = .int .i64 st) (h : Half P t k w b n s f l st) {val : Value} (hv : act.eval v = val) {f' : Lit → Option Value} (hf : PutF f f' l (some val))
    (hK : ∀ w' : World, MapIs P k w' b (n + 1) (if (f l).isSome then s else s + 1) f' → w.grownBy w' (some b) → Kk (act.put o.dst undef) w') : if Region.wanted o (yielded ops act.tmps) = true then Oper.wp P o act w Kk Q else E := by
  have hw : Region.wanted o (yielded ops act.tmps) = true := by simp [Region.wanted, hg]
  rw [if_pos hw]
  obtain ⟨w', hrun, r1, r2⟩ := h.store val hf
  unfold Oper.wp
  simp only [goInt] at hrun
  simp [execOp, hop, hm, hx, hv, hrun, Result.andThen]
  exact hK w' r1 r2
end
/-- one value more under a key -/
noncomputable def setL (f : Lit → Option Value) (l : Lit) (o : Option Value) : Lit → Option Value := fun x => by
  classical
  exact if x = l then o else f x
theorem setL_put (f : Lit → Option Value) (l : Lit) (o : Option Value) : PutF f (setL f l o) l o := ⟨by unfold setL; simp, fun y hy => by unfold setL; simp [hy]⟩
theorem grown_drew {w w' : World} {r : Option Nat} (h : w.drew.grownBy w' r) : w.grownBy w' r := ⟨h.1, h.2, h.3, h.4, h.5⟩
/-- 'v, ok := m[k]', k a number: '(at_lookup; refine wp_look_int rfl _ _ rfl A.underlyingK A.underlyingT zeroE rfl M.out _ rfl HOUT ?_)' -/
theorem wp_look_int {P : Program} {ops : Array Oper} {rest : List Oper} {o : Oper} {a : Act} {Q : Exit → Act → World → Prop} {w : World} {k : TypeId} {b n s : Nat} {f : Lit → Option Value} (hg : o.guard = none) (m x : Operand) {t e : TypeId} (hop : o.op = Op.lookup t m x true)
    {q : IntKind} (hk : P.underlying k = some (.int q)) (ht : P.underlying t = some (.map k e)) {z : Value} (hz : (zeroValue e).run P w = .ok z w)
    (hm : a.eval m = .map (some b)) (h : MapIs P k w b n s f) {i : Int} (hx : a.eval x = .int q i) (ho : (Lit.int q i).wf = false → f (.int q i) = none) {r : Option Value} (hr : f (.int q i) = r)
    (hK : wpList P ops Q rest (a.put o.dst (.tuple #[r.getD z, .bool r.isSome])) w) : wpList P ops Q (o :: rest) a w := by
  subst hr
  refine wpList_plain hg fun K' hK' => ?_
  unfold Oper.wp
  simp [execOp, hop, hm, hx, h.look_int hk ht hz i ho, Result.andThen]
  exact hK' _ _ hK
end Go.Proofs.Ythdgaoifbejpjaa.Mv
