/- Maps of the call's own: an entry that is taken and stored again ('m[k] = append(m[k], x)'); a number that no key is; how many entries there are at most. For any program. No condition but those stated. -/
import Derived.WideKeyEntry
import Derived.DeepKeys4
import Derived.Test.YtihjdmdafiifhaaGreatM8
import Derived.Test.YtihjdmdafiifhaaGreatM31
import Derived.Test.YtihjdmdafiifhaaGreatM33
import Derived.Test.YtihjdmdafiifhaaGreatM36
set_option linter.unusedVariables false
set_option linter.unusedSimpArgs false
set_option linter.unusedVariables false
set_option linter.unusedSimpArgs false
namespace Go.Proofs.YtihjdmdafiifhaaGreat.Mv
open Go.RowKit Kd Go.ChangeMaps Go.MapKept
open Go.Maps (Keyed)

section
variable {P : Program} {w w' : World} {k : TypeId} {b n s : Nat} {f : Lit → Option Value}
/-- there are as many entries as it counts -/
theorem MapIs.tight (h : MapIs P k w b n s f) : MapIs P k w b s s f := by
  obtain ⟨D, ⟨es, cl, hb, F, hs, hD⟩, h2, h3⟩ := h
  have : es.size ≤ s := by
    rw [← h2, hD, Maps.size_eq, length_sorted]
    simp
  exact ⟨D, ⟨es, cl, hb, F, this, hD⟩, h2, h3⟩
/-- a number that isn't one of the key's type is no key -/
theorem MapIs.look_out (h : MapIs P k w b n s f) {q : IntKind} (hk : P.underlying k = some (.int q)) {t e : TypeId} (ht : P.underlying t = some (.map k e)) {z : Value} (hz : (zeroValue e).run P w = .ok z w) {a : Int} (hw : (Lit.int q a).wf = false) (c : Bool) :
    (Instr.lookup t (.map (some b)) (.int q a) c).run P w = .ok (if c then .tuple #[z, .bool false] else z) w := by
  obtain ⟨D, ⟨es, cl, hb, F, _, _⟩, _, _⟩ := h
  have hpl : ∀ v, keyOf P k v = mapKey P k v := fun v => by simp [keyOf, hk]
  have hks : ∀ y ∈ es.toList, IsKey (.int q) y.key := fun y hy => by
    obtain ⟨l, hl⟩ := F.keys y hy
    rw [hpl] at hl
    obtain ⟨d, hd, h1, _⟩ := WideShapes.mapKey_isKey hl
    rw [hk] at hd
    injection hd with hd
    subst hd
    exact h1
  have hx : IsKey (.int q) (.int q a) := rfl
  rcases findNow_spec hx es.toList 0 hks with ⟨h1, h2⟩ | ⟨j, e0, h1, h2, h3⟩
  · simp [Instr.lookup, run_underlying ht, MapKept.run_getObj_map hb, run_checkKey hk hx, run_findKey hk h1, hz, Result.andThen]
  · exfalso
    obtain ⟨l, hl⟩ := F.keys e0 (List.mem_of_getElem? h2)
    rw [h3, hpl] at hl
    simp [mapKey, hk, hw] at hl
/-- a number: what lies under it -/
theorem MapIs.look_int (h : MapIs P k w b n s f) {q : IntKind} (hk : P.underlying k = some (.int q)) {t e : TypeId} (ht : P.underlying t = some (.map k e)) {z : Value} (hz : (zeroValue e).run P w = .ok z w) (a : Int) (ho : (Lit.int q a).wf = false → f (.int q a) = none) :
    (Instr.lookup t (.map (some b)) (.int q a) true).run P w = .ok (.tuple #[(f (.int q a)).getD z, .bool (f (.int q a)).isSome]) w := by
  cases hw : (Lit.int q a).wf with
  | true => exact h.look_ok (Maps.int_keyed hk) ht hz (Maps.keyOf_int_mk hk hw)
  | false =>
    rw [h.look_out hk ht hz hw true, ho hw]
    rfl
/-- an entry that was taken, not stored yet -/
def Half (P : Program) (t k : TypeId) (w : World) (b n s : Nat) (f : Lit → Option Value) (l : Lit) (st : Nat) : Prop :=
  ∃ es1 clock1, w.heap[b]? = some (.map es1 clock1) ∧ ∀ (w2 : World) (val : Value), w2.heap[b]? = some (.map es1 clock1) → ∃ es' clock', (Instr.entryStore t (.map (some b)) (goInt st) val).run P w2 = .ok () (setBlock w2 b (.map es' clock')) ∧
    ∀ f', PutF f f' l (some val) → ∀ w3 : World, w3.heap[b]? = some (.map es' clock') → MapIs P k w3 b (n + 1) (if (f l).isSome then s else s + 1) f'
theorem Half.kept {t : TypeId} {l : Lit} {st : Nat} (h : Half P t k w b n s f l st) (hb : w'.heap[b]? = w.heap[b]?) : Half P t k w' b n s f l st := by
  obtain ⟨es1, cl1, h1, h2⟩ := h
  exact ⟨es1, cl1, hb.trans h1, h2⟩
theorem Half.lt {t : TypeId} {l : Lit} {st : Nat} (h : Half P t k w b n s f l st) : b < w.heap.size := by
  obtain ⟨es1, cl1, h1, h2⟩ := h
  exact heap_lt h1
theorem Half.blk {t : TypeId} {l : Lit} {st : Nat} (h : Half P t k w b n s f l st) : ∃ es clock, w.heap[b]? = some (.map es clock) := by
  obtain ⟨es1, cl1, h1, h2⟩ := h
  exact ⟨es1, cl1, h1⟩
theorem grown_setBlock {es : Array MapEntry} {cl : Nat} {o' : Obj} (hb : w.heap[b]? = some (.map es cl)) : w.grownBy (setBlock w b o') (some b) :=
  ⟨rfl, rfl, rfl, by simp [setBlock], fun i _ hi => heap_setBlock_other hb _ (fun e => hi (by rw [e]))⟩
/-- the entry of a key is taken -/
theorem MapIs.entry (h : MapIs P k w b n s f) (K : WideMaps.KeyLaw P k) {t e : TypeId} (ht : P.underlying t = some (.map k e)) {z : Value} (hz : ∀ u : World, (zeroValue e).run P u = .ok z u) (hn : n < maxLen) {key : Value} {l : Lit} (hkey : keyOf P k key = some l) :
    ∃ (st : Nat) (w' : World), (Instr.mapEntry t (.map (some b)) key).run P w = .ok (.tuple #[(f l).getD z, goInt st]) w' ∧ Half P t k w' b n s f l st ∧ w.grownBy w' (some b) := by
  have h0 := h
  obtain ⟨D, ⟨es, cl, hb, F, hs, hD⟩, hsz, hf⟩ := h
  obtain ⟨v0, st, es1, cl1, hr, hv, hst⟩ := WideElems.entry_then_store K ht hz hb F hkey
  have hlook := h0.look (Keyed.of_law K) ht (hz w) hkey
  have hval : v0 = (f l).getD z := by
    obtain ⟨_, _, s3⟩ := F.stamped
    rcases Maps.fit_look false (Keyed.of_law K) ht (hz w) hb F hkey with ⟨hrun, hno, _⟩ | ⟨e1, y, he1, hk1, hrun, _⟩
    · rw [hlook] at hrun
      injection hrun with hrun
      rcases hv with ⟨e0, he0, hk0, _⟩ | ⟨_, hv0⟩
      · exact absurd hk0 (hno e0 he0)
      · rw [hv0]; exact hrun.symm
    · rw [hlook] at hrun
      injection hrun with hrun
      rcases hv with ⟨e0, he0, hk0, hv0⟩ | ⟨hno, _⟩
      · have : e0 = e1 := by
          rcases Classical.em (e0 = e1) with h | h
          · exact h
          · exfalso
            obtain ⟨i, hi, e2⟩ := List.getElem_of_mem he0
            obtain ⟨j, hj, e3⟩ := List.getElem_of_mem he1
            rcases Nat.lt_trichotomy i j with h4 | h4 | h4
            · exact (List.pairwise_iff_getElem.1 s3 i j (by simpa using hi) (by simpa using hj) h4) (by rw [List.getElem_map, List.getElem_map, e2, e3]; exact hk0.trans hk1.symm)
            · subst h4
              exact h (e2.symm.trans e3)
            · exact (List.pairwise_iff_getElem.1 s3 j i (by simpa using hj) (by simpa using hi) h4) (by rw [List.getElem_map, List.getElem_map, e2, e3]; exact hk1.trans hk0.symm)
        rw [hv0, this]
        exact hrun.symm
      · exact absurd hk1 (hno e1 he1)
  rw [hval] at hr
  refine ⟨st, _, hr, ⟨es1, cl1, heap_setBlock_same hb _, fun w2 val hw2 => ?_⟩, grown_setBlock hb⟩
  obtain ⟨es', cl', h1, h2⟩ := hst w2 val hw2
  refine ⟨es', cl', h1, fun f' hf' w3 hw3 => ?_⟩
  obtain ⟨w4, hr4, hm4, _⟩ := h0.store (Keyed.of_law K) ht hn (val := val) hkey hf'
  rw [h2] at hr4
  injection hr4 with _ hr4
  rw [← hr4] at hm4
  exact hm4.kept (hw3.trans (heap_setBlock_same hb _).symm)
/-- it is stored -/
theorem Half.store {t : TypeId} {l : Lit} {st : Nat} (h : Half P t k w b n s f l st) (val : Value) {f' : Lit → Option Value} (hf : PutF f f' l (some val)) :
    ∃ w', (Instr.entryStore t (.map (some b)) (goInt st) val).run P w = .ok () w' ∧ MapIs P k w' b (n + 1) (if (f l).isSome then s else s + 1) f' ∧ w.grownBy w' (some b) := by
  obtain ⟨es1, cl1, h1, h2⟩ := h
  obtain ⟨es', cl', h3, h4⟩ := h2 w val h1
  exact ⟨_, h3, h4 f' hf _ (heap_setBlock_same h1 _), grown_setBlock h1⟩
/-! ### At the operation, in a region that draws its order -/
variable {ops : Array Oper} {o : Oper} {act : Act} {Kk : Act → World → Prop} {Q : Exit → Act → World → Prop} {E : Prop}
/-- 'm[k]', taken to be stored again -/
theorem step_entry (hg : o.guard = none) (m x : Operand) {t e : TypeId} (hop : o.op = Op.mapEntry t m x) (K : WideMaps.KeyLaw P k) (ht : P.underlying t = some (.map k e)) {z : Value} (hz : ∀ u : World, (zeroValue e).run P u = .ok z u)
    (hm : act.eval m = .map (some b)) (h : MapIs P k w b n s f) (hn : n < maxLen) {key : Value} {l : Lit} (hx : act.eval x = key) (hkey : keyOf P k key = some l) {v0 : Value} (hv0 : (f l).getD z = v0)
    (hK : ∀ (st : Nat) (w' : World), Half P t k w' b n s f l st → w.grownBy w' (some b) → Kk (act.put o.dst (.tuple #[v0, .int .i64 st])) w') : if Region.wanted o (yielded ops act.tmps) = true then Oper.wp P o act w Kk Q else E := by
  subst hv0
  have hw : Region.wanted o (yielded ops act.tmps) = true := by simp [Region.wanted, hg]
  rw [if_pos hw]
  obtain ⟨st, w', hrun, r1, r2⟩ := h.entry K ht hz hn hkey
  unfold Oper.wp
  simp [execOp, hop, hm, hx, hrun, Result.andThen]
  exact hK st w' r1 r2
/-- the entry is stored -/
theorem step_entry_store (hg : o.guard = none) (m x v : Operand) {t : TypeId} (hop : o.op = Op.entryStore t m x v) {st : Nat} {l : Lit}
    (hm : act.eval m = .map (some b)) (hx : act.eval x = .int .i64 st) (h : Half P t k w b n s f l st) {val : Value} (hv : act.eval v = val) {f' : Lit → Option Value} (hf : PutF f f' l (some val))
    (hK : ∀ w' : World, MapIs P k w' b (n + 1) (if (f l).isSome then s else s + 1) f' → w.grownBy w' (some b) → Kk (act.put o.dst undef) w') : if Region.wanted o (yielded ops act.tmps) = true then Oper.wp P o act w Kk Q else E := by
  have hw : Region.wanted o (yielded ops act.tmps) = true := by simp [Region.wanted, hg]
  rw [if_pos hw]
  obtain ⟨w', hrun, r1, r2⟩ := h.store val hf
  unfold Oper.wp
  simp only [goInt] at hrun
  simp [execOp, hop, hm, hx, hv, hrun, Result.andThen]
  exact hK w' r1 r2
end
/-- one value more under a key -/
noncomputable def setL (f : Lit → Option Value) (l : Lit) (o : Option Value) : Lit → Option Value := fun x => by
  classical
  exact if x = l then o else f x
theorem setL_put (f : Lit → Option Value) (l : Lit) (o : Option Value) : PutF f (setL f l o) l o := ⟨by unfold setL; simp, fun y hy => by unfold setL; simp [hy]⟩
theorem grown_drew {w w' : World} {r : Option Nat} (h : w.drew.grownBy w' r) : w.grownBy w' r := ⟨h.1, h.2, h.3, h.4, h.5⟩
/-- 'v, ok := m[k]', k a number: '(at_lookup; refine wp_look_int rfl _ _ rfl A.underlyingK A.underlyingT zeroE rfl M.out _ rfl HOUT ?_)' -/
theorem wp_look_int {P : Program} {ops : Array Oper} {rest : List Oper} {o : Oper} {a : Act} {Q : Exit → Act → World → Prop} {w : World} {k : TypeId} {b n s : Nat} {f : Lit → Option Value} (hg : o.guard = none) (m x : Operand) {t e : TypeId} (hop : o.op = Op.lookup t m x true)
    {q : IntKind} (hk : P.underlying k = some (.int q)) (ht : P.underlying t = some (.map k e)) {z : Value} (hz : (zeroValue e).run P w = .ok z w)
    (hm : a.eval m = .map (some b)) (h : MapIs P k w b n s f) {i : Int} (hx : a.eval x = .int q i) (ho : (Lit.int q i).wf = false → f (.int q i) = none) {r : Option Value} (hr : f (.int q i) = r)
    (hK : wpList P ops Q rest (a.put o.dst (.tuple #[r.getD z, .bool r.isSome])) w) : wpList P ops Q (o :: rest) a w := by
  subst hr
  refine wpList_plain hg fun K' hK' => ?_
  unfold Oper.wp
  simp [execOp, hop, hm, hx, h.look_int hk ht hz i ho, Result.andThen]
  exact hK' _ _ hK
end Go.Proofs.YtihjdmdafiifhaaGreat.Mv

/- The program's keys: the type of its maps' keys; the identities of one tag and key, plainly; what lies under a key when a child is added, or dropped. No condition. -/
set_option linter.unusedVariables false
set_option linter.unusedSimpArgs false
namespace Go.Proofs.YtihjdmdafiifhaaGreat.P15
open Go.RowKit Kd P4 P5 Mv

set_option maxRecDepth 100000
theorem laidOut15 : laidOutB Tryz.prog = true := by kernel_rfl
theorem rowN : (82 : TypeId) < Tryz.prog.types.size := of_decide_eq_true (by kernel_rfl)
theorem wideN : (match Tryz.prog.underlying 82 with | some (.array _ _) | some (.struct _) => true | _ => false) = true := by rw [Tryz.underlying82]
theorem lawN : WideMaps.KeyLaw Tryz.prog 82 := deep_law_laid laidOut15 (m := 2) (by omega) rowN (by kernel_rfl) wideN
theorem lawI : Go.Maps.Keyed Tryz.prog 3 := Go.Maps.int_keyed Tryz.underlying3
def knV (tag key : ByteArray) : Value := .agg #[.string tag, .string key]
def kn (tag key : ByteArray) : Lit := .string (keyBytes [.string tag.data.toList, .string key.data.toList])
theorem ktN : Tryz.prog.keyType 82 = true := by kernel_rfl
theorem cellsN : Tryz.prog.cellsOf 82 = 2 := by kernel_rfl
theorem cellsSt : Tryz.prog.cellsOf 9 = 1 := by kernel_rfl
theorem manyT : ∃ m, Tryz.prog.types.size = m + 1 := ⟨Tryz.prog.types.size - 1, (Nat.succ_pred_eq_of_pos (Nat.lt_of_le_of_lt (Nat.zero_le _) rowN)).symm⟩
theorem key_n {tag key : ByteArray} (h1 : tag.size ≤ maxLen) (h2 : key.size ≤ maxLen) : keyOf Tryz.prog 82 (knV tag key) = some (kn tag key) := by
  obtain ⟨m, hm⟩ := manyT
  unfold keyOf knV
  simp only [Tryz.underlying82]
  rw [if_pos (by simp [ktN, Value.formed, Tryz.underlying82, cellsN]), hm]
  unfold Program.keyLits
  simp only [Tryz.underlying82, Value.cells]
  rw [if_pos (by rw [cellsN]; exact ⟨rfl, by simp⟩)]
  simp [cellsSt, Program.keyLits, Tryz.underlying9, h1, h2, kn]
theorem kn_inj {t k t' k' : ByteArray} (h1 : t.size ≤ maxLen) (h2 : k.size ≤ maxLen) (h3 : t'.size ≤ maxLen) (h4 : k'.size ≤ maxLen) (h : kn t k = kn t' k') : t = t' ∧ k = k' := by
  have := lawN.inj (key_n h1 h2) (by rw [h]; exact key_n h3 h4)
  simpa [knV] using this
theorem zeroN (w : World) : (zeroValue 82).run Tryz.prog w = .ok (.agg #[.string ⟨#[]⟩, .string ⟨#[]⟩]) w := by kernel_rfl
theorem zeroL (w : World) : (zeroValue 23).run Tryz.prog w = .ok (.slice none 0 0) w := by kernel_rfl
/-! ### Plain -/
/-- the identities of a tag and a key -/
def idsK (left : List Ch) (tag key : ByteArray) : List Int := cids (left.filter (hitC tag key))
theorem hitC_iff {tag key : ByteArray} {c : Ch} : hitC tag key c = true ↔ c.tag = tag ∧ c.key = key := by
  have e : ∀ a b : ByteArray, a.toList = b.toList ↔ a = b := fun a b => ⟨fun h => by
    rw [ByteArray.toList_eq, ByteArray.toList_eq] at h
    obtain ⟨⟨a⟩⟩ := a
    obtain ⟨⟨b⟩⟩ := b
    simp only at h
    rw [h], fun h => by rw [h]⟩
  unfold hitC
  rw [Bool.and_eq_true, beq_iff_eq, beq_iff_eq, e, e]
theorem find_ids (left : List Ch) (tag key : ByteArray) : findM left tag key = match idsK left tag key with | [] => (0, false) | i :: _ => (i, true) := by
  unfold findM idsK
  rw [← List.head?_filter]
  cases left.filter (hitC tag key) <;> rfl
theorem idsK_snoc (left : List Ch) (c : Ch) (tag key : ByteArray) : idsK (left ++ [c]) tag key = if c.tag = tag ∧ c.key = key then idsK left tag key ++ [c.id] else idsK left tag key := by
  unfold idsK cids
  rw [List.filter_append, List.map_append]
  by_cases h : c.tag = tag ∧ c.key = key
  · rw [if_pos h, List.filter_cons, if_pos (hitC_iff.2 h)]
    rfl
  · rw [if_neg h, List.filter_cons, if_neg (fun e => h (hitC_iff.1 e))]
    simp
theorem idsK_sub (left : List Ch) (tag key : ByteArray) : (idsK left tag key).Sublist (cids left) := (List.filter_sublist).map _
theorem idsK_len (left : List Ch) (tag key : ByteArray) : (idsK left tag key).length ≤ left.length := by
  have := (idsK_sub left tag key).length_le
  simpa [cids] using this
theorem idsK_drop (left : List Ch) (i : Int) (tag key : ByteArray) : idsK (dropM left i) tag key = (idsK left tag key).filter fun j => !decide (j = i) := by
  unfold idsK cids dropM
  rw [List.filter_map, List.filter_filter, List.filter_filter]
  congr 1
  apply List.filter_congr
  intro c _
  simp only [Function.comp, Bool.and_comm]
theorem has_find {left : List Ch} {i : Int} : hasM left i = (left.find? (fun c => decide (c.id = i))).isSome := by
  unfold hasM
  rw [List.isSome_find?]
/-- one that is there: under which tag and key it stands, and where -/
theorem ch_at {left : List Ch} {c : Ch} (hd : (cids left).Nodup) (hc : c ∈ left) : left.find? (fun x => decide (x.id = c.id)) = some c ∧ c.id ∈ idsK left c.tag c.key := by
  refine ⟨?_, List.mem_map.2 ⟨c, List.mem_filter.2 ⟨hc, hitC_iff.2 ⟨rfl, rfl⟩⟩, rfl⟩⟩
  cases hf : left.find? (fun x => decide (x.id = c.id)) with
  | none =>
    have := List.find?_eq_none.1 hf c hc
    simp at this
  | some x =>
    have h1 := List.mem_of_find?_eq_some hf
    have h2 := List.find?_some hf
    simp only [decide_eq_true_eq] at h2
    obtain ⟨i, hi, e1⟩ := List.getElem_of_mem h1
    obtain ⟨j, hj, e2⟩ := List.getElem_of_mem hc
    have hn : ∀ i j (hi : i < left.length) (hj : j < left.length), i < j → left[i].id ≠ left[j].id := fun i j hi hj h => by
      have := List.pairwise_iff_getElem.1 hd i j (by simpa [cids] using hi) (by simpa [cids] using hj) h
      simpa [cids] using this
    rcases Nat.lt_trichotomy i j with h | h | h
    · exact absurd (by rw [e1, e2]; exact h2) (hn i j hi hj h)
    · subst h
      rw [← e1, ← e2]
    · exact absurd (by rw [e1, e2]; exact h2.symm) (hn j i hj hi h)
theorem ids_other {left : List Ch} {c : Ch} (hd : (cids left).Nodup) (hc : c ∈ left) {tag key : ByteArray} (h : ¬ (c.tag = tag ∧ c.key = key)) : c.id ∉ idsK left tag key := fun hm => by
  obtain ⟨x, hx, e⟩ := List.mem_map.1 hm
  obtain ⟨h1, h2⟩ := List.mem_filter.1 hx
  have f1 := (ch_at hd hc).1
  have f2 := (ch_at hd h1).1
  rw [e, f1] at f2
  injection f2 with f2
  subst f2
  exact h (hitC_iff.1 h2)
end Go.Proofs.YtihjdmdafiifhaaGreat.P15

/- The program's keys in memory: its own block, its two maps, the slices that lie in one of them. No condition but those stated. -/
set_option linter.unusedVariables false
set_option linter.unusedSimpArgs false
namespace Go.Proofs.YtihjdmdafiifhaaGreat.P15
open Go.RowKit Kd P4 P5 Mv

/-- the map's own block -/
def KB (w : World) (g : Nat) (done lock : Int) (d s : Value) (a b : Option Nat) : Prop := w.heap[g]? = some (.cells #[.int .u32 done, .int .i32 lock, .int .u32 0, d, s, .map a, .map b] 79 (0, 0))
section
variable {w w' : World} {g : Nat} {done lock : Int} {d s : Value} {a b : Option Nat}
theorem KB.c0 (h : KB w g done lock d s a b) : w.cell? ⟨g, 0, none⟩ = some (.int .u32 done) := cell_of_row w g 0 _ _ (0, 0) h
theorem KB.c1 (h : KB w g done lock d s a b) : w.cell? ⟨g, 1, none⟩ = some (.int .i32 lock) := cell_of_row w g 1 _ _ (0, 0) h
theorem KB.c3 (h : KB w g done lock d s a b) : w.cell? ⟨g, 3, none⟩ = some d := cell_of_row w g 3 _ _ (0, 0) h
theorem KB.c4 (h : KB w g done lock d s a b) : w.cell? ⟨g, 4, none⟩ = some s := cell_of_row w g 4 _ _ (0, 0) h
theorem KB.c5 (h : KB w g done lock d s a b) : w.cell? ⟨g, 5, none⟩ = some (.map a) := cell_of_row w g 5 _ _ (0, 0) h
theorem KB.c6 (h : KB w g done lock d s a b) : w.cell? ⟨g, 6, none⟩ = some (.map b) := cell_of_row w g 6 _ _ (0, 0) h
theorem KB.fz (h : KB w g done lock d s a b) (o : Nat) : w.frozen? ⟨g, o, none⟩ = false := by
  unfold KB at h
  simp [World.frozen?, h]
theorem KB.lt (h : KB w g done lock d s a b) : g < w.heap.size := heap_lt h
theorem KB.kept (h : KB w g done lock d s a b) (hb : w'.heap[g]? = w.heap[g]?) : KB w' g done lock d s a b := hb.trans h
theorem KB.drewN (h : KB w g done lock d s a b) (n : Nat) : KB (w.drewN n) g done lock d s a b := h
end
/-- the two maps, as they hold what is left -/
structure MpK (w : World) (m1 m2 s1 N : Nat) (f f2 : Lit → Option Value) (left : List Ch) : Prop where
  a1 : MapIs Tryz.prog 82 w m1 s1 s1 f
  a2 : MapIs Tryz.prog 3 w m2 left.length left.length f2
  ne : m1 ≠ m2
  sN : s1 ≤ N
  lN : left.length ≤ N
  at_ : ∀ tag key : ByteArray, tag.size ≤ maxLen → key.size ≤ maxLen → kI.Own w 0 ((f (kn tag key)).getD (.slice none 0 0)) (idsK left tag key)
  dom : ∀ l v, f l = some v → ∃ tag key : ByteArray, tag.size ≤ maxLen ∧ key.size ≤ maxLen ∧ l = kn tag key
  apart : ∀ l l' v v', l ≠ l' → f l = some v → f l' = some v' → Apart v v'
  names : ∀ i : Int, f2 (.int .i64 i) = (left.find? (fun c => decide (c.id = i))).map fun c => knV c.tag c.key
  rng : ∀ c ∈ left, (Lit.int .i64 c.id).wf = true ∧ c.tag.size ≤ maxLen ∧ c.key.size ≤ maxLen
  nd : (cids left).Nodup
/-- what it lies in -/
def Wm (m1 m2 : Nat) (f : Lit → Option Value) (k : Nat) : Prop := k = m1 ∨ k = m2 ∨ ∃ l v, f l = some v ∧ v.ownBlock = some k
section
variable {w w' : World} {m1 m2 s1 N : Nat} {f f2 : Lit → Option Value} {left : List Ch}
theorem MpK.own (h : MpK w m1 m2 s1 N f f2 left) {l : Lit} {v : Value} (hl : f l = some v) : ∃ ids, kI.Own w 0 v ids := by
  obtain ⟨tag, key, h1, h2, rfl⟩ := h.dom l v hl
  have := h.at_ tag key h1 h2
  rw [hl] at this
  exact ⟨_, this⟩
theorem MpK.lt (h : MpK w m1 m2 s1 N f f2 left) {k : Nat} (hk : Wm m1 m2 f k) : k < w.heap.size := by
  rcases hk with rfl | rfl | ⟨l, v, hl, hv⟩
  · exact h.a1.lt
  · exact h.a2.lt
  · obtain ⟨ids, ho⟩ := h.own hl
    exact (ho.lt hv).2
/-- each of its blocks is a map, or a slice of integers -/
theorem MpK.ty (h : MpK w m1 m2 s1 N f f2 left) {k : Nat} (hk : Wm m1 m2 f k) : (∃ es cl, w.heap[k]? = some (.map es cl)) ∨ ∃ cur, w.heap[k]? = some (.cells cur 3 (0, 0)) := by
  rcases hk with rfl | rfl | ⟨l, v, hl, hv⟩
  · exact .inl h.a1.blk
  · exact .inl h.a2.blk
  · obtain ⟨ids, ho⟩ := h.own hl
    exact .inr (ho.ty hv)
theorem MpK.noA (h : MpK w m1 m2 s1 N f f2 left) : NoA w (Wm m1 m2 f) := by
  intro k cur fr hk hh
  rcases h.ty hk with ⟨es, cl, h1⟩ | ⟨cur', h1⟩
  · rw [h1] at hh; injection hh with hh; cases hh
  · exact heap_ne h1 hh (by decide) rfl
theorem MpK.not_KB (h : MpK w m1 m2 s1 N f f2 left) {g : Nat} {done lock : Int} {d s : Value} {a b : Option Nat} (hg : KB w g done lock d s a b) : ¬ Wm m1 m2 f g := by
  intro hk
  rcases h.ty hk with ⟨es, cl, h1⟩ | ⟨cur', h1⟩
  · unfold KB at hg
    rw [h1] at hg; injection hg with hg; cases hg
  · exact heap_ne h1 hg (by decide) rfl
theorem MpK.but {T : Nat → Prop} (h : MpK w m1 m2 s1 N f f2 left) (hb : But T w w') (hT : ∀ k, Wm m1 m2 f k → ¬ T k) : MpK w' m1 m2 s1 N f f2 left := by
  refine ⟨h.a1.kept (hb.block _ h.a1.lt (hT _ (.inl rfl))), h.a2.kept (hb.block _ h.a2.lt (hT _ (.inr (.inl rfl)))), h.ne, h.sN, h.lN, fun tag key h1 h2 => ?_, h.dom, h.apart, h.names, h.rng, h.nd⟩
  refine (h.at_ tag key h1 h2).but hb fun k hk => hT k (.inr (.inr ?_))
  cases hf : f (kn tag key) with
  | none => rw [hf] at hk; cases hk
  | some v => rw [hf] at hk; exact ⟨_, v, hf, hk⟩
theorem MpK.mono (h : MpK w m1 m2 s1 N f f2 left) {M : Nat} (hM : N ≤ M) : MpK w m1 m2 s1 M f f2 left := ⟨h.a1, h.a2, h.ne, Nat.le_trans h.sN hM, Nat.le_trans h.lN hM, h.at_, h.dom, h.apart, h.names, h.rng, h.nd⟩
/-- two new maps: nothing is left -/
theorem MpK.made {m1 m2 : Nat} (h1 : MapIs Tryz.prog 82 w m1 0 0 (fun _ => none)) (h2 : MapIs Tryz.prog 3 w m2 0 0 (fun _ => none)) (hne : m1 ≠ m2) : MpK w m1 m2 0 0 (fun _ => none) (fun _ => none) [] :=
  ⟨h1, h2, hne, Nat.le_refl _, Nat.le_refl _, fun _ _ _ _ => Kind.Own.nil kI w 0, fun _ _ h => (by cases h), fun _ _ _ _ _ h => (by cases h), fun _ => rfl, fun _ h => (by cases h), List.nodup_nil⟩
/-- what lies under an identity's key -/
theorem MpK.out (h : MpK w m1 m2 s1 N f f2 left) (i : Int) (hi : (Lit.int .i64 i).wf = false) : f2 (.int .i64 i) = none := by
  rw [h.names]
  cases hf : left.find? (fun c => decide (c.id = i)) with
  | none => rfl
  | some c =>
    have h1 := (h.rng c (List.mem_of_find?_eq_some hf)).1
    have h2 := List.find?_some hf
    simp only [decide_eq_true_eq] at h2
    rw [h2, hi] at h1
    cases h1
/-- the slice of a tag and a key, in both maps: another in its place -/
theorem MpK.put (h : MpK w m1 m2 s1 N f f2 left) {left' : List Ch} {M s' : Nat} {f' f2' : Lit → Option Value} {tag key : ByteArray} {v' : Value} (h1 : tag.size ≤ maxLen) (h2 : key.size ≤ maxLen)
    (hb : But (fun k => k = m1 ∨ k = m2 ∨ ((f (kn tag key)).getD (.slice none 0 0)).ownBlock = some k) w w')
    (a1 : MapIs Tryz.prog 82 w' m1 s' s' f') (hf : PutF f f' (kn tag key) (some v')) (a2 : MapIs Tryz.prog 3 w' m2 left'.length left'.length f2')
    (hn : ∀ i : Int, f2' (.int .i64 i) = (left'.find? (fun c => decide (c.id = i))).map fun c => knV c.tag c.key)
    (sM : s' ≤ M) (lM : left'.length ≤ M) (ho : kI.Own w' 0 v' (idsK left' tag key)) (hv : ∀ k, v'.ownBlock = some k → ((f (kn tag key)).getD (.slice none 0 0)).ownBlock = some k ∨ w.heap.size ≤ k)
    (hoth : ∀ t k : ByteArray, ¬ (t = tag ∧ k = key) → idsK left' t k = idsK left t k) (hr : ∀ c ∈ left', (Lit.int .i64 c.id).wf = true ∧ c.tag.size ≤ maxLen ∧ c.key.size ≤ maxLen) (hnd : (cids left').Nodup) :
    MpK w' m1 m2 s' M f' f2' left' ∧ ∀ k, Wm m1 m2 f' k → Wm m1 m2 f k ∨ w.heap.size ≤ k := by
  have apV : ∀ l v, l ≠ kn tag key → f l = some v → Apart v v' := fun l v hl hlv k hk hk' => by
    rcases hv k hk' with e | e
    · cases hf0 : f (kn tag key) with
      | none => rw [hf0] at e; cases e
      | some u =>
        rw [hf0] at e
        exact h.apart l _ v u hl hlv hf0 k hk e
    · obtain ⟨_, hw⟩ := h.own hlv
      have := (hw.lt hk).2
      omega
  refine ⟨⟨a1, a2, h.ne, sM, lM, fun t k ht hk => ?_, fun l v hl => ?_, fun l l' v v2 hll hl hl' => ?_, hn, hr, hnd⟩, fun k hk => ?_⟩
  · by_cases e : t = tag ∧ k = key
    · obtain ⟨rfl, rfl⟩ := e
      rw [hf.1]
      exact ho
    · have hne : kn t k ≠ kn tag key := fun e2 => e (kn_inj ht hk h1 h2 e2)
      rw [hf.2 _ hne, hoth t k e]
      refine (h.at_ t k ht hk).but hb fun j hj hS => ?_
      cases hf0 : f (kn t k) with
      | none => rw [hf0] at hj; cases hj
      | some u =>
        rw [hf0] at hj
        have hW : Wm m1 m2 f j := .inr (.inr ⟨_, u, hf0, hj⟩)
        obtain ⟨_, hou⟩ := h.own hf0
        obtain ⟨cur, hcur⟩ := hou.ty hj
        rcases hS with rfl | rfl | e2
        · obtain ⟨es, cl, h3⟩ := h.a1.blk
          rw [h3] at hcur; injection hcur with hcur; cases hcur
        · obtain ⟨es, cl, h3⟩ := h.a2.blk
          rw [h3] at hcur; injection hcur with hcur; cases hcur
        · cases hf1 : f (kn tag key) with
          | none => rw [hf1] at e2; cases e2
          | some u' =>
            rw [hf1] at e2
            exact h.apart _ _ u u' hne hf0 hf1 j hj e2
  · by_cases e : l = kn tag key
    · exact ⟨tag, key, h1, h2, e⟩
    · rw [hf.2 _ e] at hl
      exact h.dom l v hl
  · by_cases e : l = kn tag key
    · subst e
      rw [hf.1] at hl
      injection hl with hl
      subst hl
      rw [hf.2 _ (Ne.symm hll)] at hl'
      exact (apV l' v2 (Ne.symm hll) hl').symm
    · rw [hf.2 _ e] at hl
      by_cases e' : l' = kn tag key
      · subst e'
        rw [hf.1] at hl'
        injection hl' with hl'
        subst hl'
        exact apV l v e hl
      · rw [hf.2 _ e'] at hl'
        exact h.apart l l' v v2 hll hl hl'
  · rcases hk with rfl | rfl | ⟨l, v, hl, hv'⟩
    · exact .inl (.inl rfl)
    · exact .inl (.inr (.inl rfl))
    · by_cases e : l = kn tag key
      · subst e
        rw [hf.1] at hl
        injection hl with hl
        subst hl
        rcases hv k hv' with e2 | e2
        · cases hf0 : f (kn tag key) with
          | none => rw [hf0] at e2; cases e2
          | some u => rw [hf0] at e2; exact .inl (.inr (.inr ⟨_, u, hf0, e2⟩))
        · exact .inr e2
      · rw [hf.2 _ e] at hl
        exact .inl (.inr (.inr ⟨l, v, hl, hv'⟩))
/-- the blocks that are written are its own -/
theorem MpK.writes (_h : MpK w m1 m2 s1 N f f2 left) (tag key : ByteArray) {k : Nat} (hk : k = m1 ∨ k = m2 ∨ ((f (kn tag key)).getD (.slice none 0 0)).ownBlock = some k) : Wm m1 m2 f k := by
  rcases hk with e | e | e
  · exact .inl e
  · exact .inr (.inl e)
  · cases hf0 : f (kn tag key) with
    | none => rw [hf0] at e; cases e
    | some u => rw [hf0] at e; exact .inr (.inr ⟨_, u, hf0, e⟩)
end
/-- the names, one more -/
theorem names_put {left : List Ch} {f2 f2' : Lit → Option Value} {c : Ch} (hn : ∀ i : Int, f2 (.int .i64 i) = (left.find? (fun c => decide (c.id = i))).map fun c => knV c.tag c.key) (hc : c.id ∉ cids left) (hf : PutF f2 f2' (.int .i64 c.id) (some (knV c.tag c.key))) (i : Int) :
    f2' (.int .i64 i) = ((left ++ [c]).find? (fun c => decide (c.id = i))).map fun c => knV c.tag c.key := by
  rw [List.find?_append]
  by_cases e : i = c.id
  · subst e
    have : left.find? (fun x => decide (x.id = c.id)) = none := List.find?_eq_none.2 fun x hx h => hc (List.mem_map.2 ⟨x, hx, by simpa using h⟩)
    rw [hf.1, this]
    simp
  · rw [hf.2 _ (fun e2 => e (by injection e2)), hn]
    have e' : decide (c.id = i) = false := by simpa using (Ne.symm e)
    simp [e']
/-- the names, one less -/
theorem names_del {left : List Ch} {f2 f2' : Lit → Option Value} {j : Int} (hn : ∀ i : Int, f2 (.int .i64 i) = (left.find? (fun c => decide (c.id = i))).map fun c => knV c.tag c.key) (hf : PutF f2 f2' (.int .i64 j) none) (i : Int) :
    f2' (.int .i64 i) = ((dropM left j).find? (fun c => decide (c.id = i))).map fun c => knV c.tag c.key := by
  unfold dropM
  rw [List.find?_filter]
  by_cases e : i = j
  · subst e
    rw [hf.1]
    rw [List.find?_eq_none.2 fun x _ h => by simp at h]
    rfl
  · rw [hf.2 _ (fun e2 => e (by injection e2)), hn]
    congr 1
    congr 1
    funext c
    by_cases h : c.id = i
    · subst h; simp [e]
    · simp [h]
end Go.Proofs.YtihjdmdafiifhaaGreat.P15
