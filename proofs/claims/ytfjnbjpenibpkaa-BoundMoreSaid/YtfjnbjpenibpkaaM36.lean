/- Maps of the call's own, whatever their elements: what lies under a key, how many there are; the operations at a walk. For any program. No condition but those stated. -/
import Derived.Maps.OwnSet
import Derived.Maps.OwnOps
import Derived.Test.YtfjnbjpenibpkaaM5
set_option linter.unusedVariables false
set_option linter.unusedSimpArgs false
set_option linter.unusedVariables false
set_option linter.unusedSimpArgs false
namespace Go.Proofs.Ytfjnbjpenibpkaa.Mv
open Go.RowKit Kd Go.ChangeMaps Go.MapKept
open Go.Maps (Keyed)

section
variable {P : Program} {w w' : World} {k : TypeId} {b n s : Nat} {f : Lit → Option Value}
/-- an element is read as itself -/
def RV (v : Value) : Option (DataW Value × List MemPlace) := some (.held v, [])
def ofD : DataW Value → Value
  | .held v => v
  | _ => undef
def viewD (D : DataW Value) (x : Lit) : Option Value := if Maps.has D x then some (ofD (D.atKey x .nil)) else none
theorem has_view (D : DataW Value) (x : Lit) : Maps.has D x = (viewD D x).isSome := by unfold viewD; cases Maps.has D x <;> rfl
/-- block b is a map of s entries (at most n ever); under a key x lies f x -/
def MapIs (P : Program) (k : TypeId) (w : World) (b n s : Nat) (f : Lit → Option Value) : Prop := ∃ D : DataW Value, w.ownsMap P k RV b n D ∧ Maps.size D = s ∧ ∀ x, f x = viewD D x
theorem MapIs.made (P : Program) (k : TypeId) (w : World) : MapIs P k (w.alloc (.map #[] 0)) w.heap.size 0 0 (fun _ => none) := ⟨.map [], World.ownsMap_made w P k RV, rfl, fun _ => rfl⟩
theorem MapIs.lt (h : MapIs P k w b n s f) : b < w.heap.size := by obtain ⟨D, h, _⟩ := h; exact h.lt
theorem MapIs.blk (h : MapIs P k w b n s f) : ∃ es clock, w.heap[b]? = some (.map es clock) := by obtain ⟨D, ⟨es, cl, hb, _⟩, _⟩ := h; exact ⟨es, cl, hb⟩
theorem MapIs.kept (h : MapIs P k w b n s f) (hb : w'.heap[b]? = w.heap[b]?) : MapIs P k w' b n s f := by
  obtain ⟨D, ⟨es, cl, h1, h2⟩, h3⟩ := h
  exact ⟨D, ⟨es, cl, hb.trans h1, h2⟩, h3⟩
theorem MapIs.below {C : Nat} (h : MapIs P k w b n s f) (hb : Below C w w') (hC : b < C) : MapIs P k w' b n s f := h.kept (hb.block b hC)
theorem MapIs.alloc (h : MapIs P k w b n s f) (o : Obj) : MapIs P k (w.alloc o) b n s f := h.kept (Below.heap_alloc w o b h.lt)
theorem MapIs.drewN (h : MapIs P k w b n s f) (j : Nat) : MapIs P k (w.drewN j) b n s f := h
theorem MapIs.mono (h : MapIs P k w b n s f) {m : Nat} (hm : n ≤ m) : MapIs P k w b m s f := by
  obtain ⟨D, h1, h2⟩ := h
  exact ⟨D, h1.mono hm, h2⟩
theorem MapIs.setCell (h : MapIs P k w b n s f) {a : Addr} (ha : b ≠ a.block) (u : Value) : MapIs P k (w.setCell a u) b n s f := by
  obtain ⟨D, h1, h2⟩ := h
  exact ⟨D, h1.setCell ha u, h2⟩
theorem MapIs.ext {g : Lit → Option Value} (h : MapIs P k w b n s f) (e : ∀ x, g x = f x) : MapIs P k w b n s g := by
  obtain ⟨D, h1, h2, h3⟩ := h
  exact ⟨D, h1, h2, fun x => (e x).trans (h3 x)⟩
theorem viewD_of {D : DataW Value} (h : w.ownsMap P k RV b n D) (K : Keyed P k) {t e : TypeId} (ht : P.underlying t = some (.map k e)) {z : Value} (hz : (zeroValue e).run P w = .ok z w) {key : Value} {x : Lit} (hkey : keyOf P k key = some x) (c : Bool) :
    (Instr.lookup t (.map (some b)) key c).run P w = .ok (if c then .tuple #[(viewD D x).getD z, .bool (viewD D x).isSome] else (viewD D x).getD z) w := by
  obtain ⟨es, clock, hb, F, _, rfl⟩ := h
  rcases Maps.fit_look c K ht hz hb F hkey with ⟨hrun, _, hat⟩ | ⟨e0, y, _, _, hrun, hRv, hat, _⟩
  · have hv : viewD (DataW.map ((es.toList.map (WideElems.rg P k RV)).foldr DataW.insert [])) x = none := by
      unfold viewD
      rw [Maps.has_false_of_atKey hat]
      rfl
    rw [hv]
    rw [hrun]
    cases c <;> rfl
  · have hy : y = (.held e0.val, []) := by
      have : RV e0.val = some y := hRv
      exact (Option.some.inj this).symm
    have hv : viewD (DataW.map ((es.toList.map (WideElems.rg P k RV)).foldr DataW.insert [])) x = some e0.val := by
      unfold viewD
      rw [Maps.has_true_of_atKey hat, hat .nil, hy]
      rfl
    rw [hv]
    rw [hrun]
    cases c <;> rfl
/-- 'm[k]' -/
theorem MapIs.look (h : MapIs P k w b n s f) (K : Keyed P k) {t e : TypeId} (ht : P.underlying t = some (.map k e)) {z : Value} (hz : (zeroValue e).run P w = .ok z w) {key : Value} {x : Lit} (hkey : keyOf P k key = some x) :
    (Instr.lookup t (.map (some b)) key false).run P w = .ok ((f x).getD z) w := by
  obtain ⟨D, h1, _, h3⟩ := h
  rw [h3 x]
  exact viewD_of h1 K ht hz hkey false
/-- 'v, ok := m[k]' -/
theorem MapIs.look_ok (h : MapIs P k w b n s f) (K : Keyed P k) {t e : TypeId} (ht : P.underlying t = some (.map k e)) {z : Value} (hz : (zeroValue e).run P w = .ok z w) {key : Value} {x : Lit} (hkey : keyOf P k key = some x) :
    (Instr.lookup t (.map (some b)) key true).run P w = .ok (.tuple #[(f x).getD z, .bool (f x).isSome]) w := by
  obtain ⟨D, h1, _, h3⟩ := h
  rw [h3 x]
  exact viewD_of h1 K ht hz hkey true
theorem view_put {D : DataW Value} (hD : Maps.IsMap D) {x : Lit} (hx : WideAt.IsKeyLit x) (v : Value) : viewD (D.put x (.held v)) x = some v ∧ ∀ y, y ≠ x → viewD (D.put x (.held v)) y = viewD D y := by
  refine ⟨?_, fun y e => ?_⟩
  · unfold viewD
    rw [Maps.has_put_same hD hx, Maps.atKey_put_same hD hx]
    rfl
  · unfold viewD
    rw [Maps.has_put_other e, Maps.atKey_put_other e]
theorem view_del {D : DataW Value} (x : Lit) : viewD (D.del x) x = none ∧ ∀ y, y ≠ x → viewD (D.del x) y = viewD D y := by
  refine ⟨?_, fun y e => ?_⟩
  · unfold viewD
    rw [Maps.has_del_same]
    rfl
  · unfold viewD
    rw [Maps.has_del_other e, Maps.atKey_del_other e]
/-- f' is f, but for v under x -/
def PutF (f f' : Lit → Option Value) (x : Lit) (v : Option Value) : Prop := f' x = v ∧ ∀ y, y ≠ x → f' y = f y
/-- 'm[k] = v' -/
theorem MapIs.store (h : MapIs P k w b n s f) (K : Keyed P k) {t e : TypeId} (ht : P.underlying t = some (.map k e)) (hn : n < maxLen) {key val : Value} {x : Lit} (hkey : keyOf P k key = some x) {f' : Lit → Option Value} (hf : PutF f f' x (some val)) :
    ∃ w', (Instr.mapUpdate t (.map (some b)) key val).run P w = .ok () w' ∧ MapIs P k w' b (n + 1) (if (f x).isSome then s else s + 1) f' ∧ w.grownBy w' (some b) := by
  obtain ⟨D, h1, h2, h3⟩ := h
  obtain ⟨w', hr, hD, hg⟩ := h1.update K ht hn hkey (val := val) (d := .held val) (ps := []) rfl
  refine ⟨w', hr, ⟨_, hD, ?_, fun y => ?_⟩, hg⟩
  · rw [Maps.size_put (h1.tidy K), has_view, ← h3 x, h2]
  · by_cases e : y = x
    · subst e
      rw [(view_put h1.isMap (K.key hkey) val).1, hf.1]
    · rw [(view_put h1.isMap (K.key hkey) val).2 y e, hf.2 y e, h3 y]
/-- 'delete(m, k)' -/
theorem MapIs.drop (h : MapIs P k w b n s f) (K : Keyed P k) {t e : TypeId} (ht : P.underlying t = some (.map k e)) {key : Value} {x : Lit} (hkey : keyOf P k key = some x) (ty : TypeId) {f' : Lit → Option Value} (hf : PutF f f' x none) :
    ∃ w', (Builtin.delete_ #[t, k] ty #[.map (some b), key]).run P w = .ok (.tuple #[]) w' ∧ MapIs P k w' b n (s - if (f x).isSome then 1 else 0) f' ∧ w.grownBy w' (some b) := by
  obtain ⟨D, h1, h2, h3⟩ := h
  obtain ⟨w', hr, hD, hg⟩ := h1.drop K ht hkey ty
  refine ⟨w', hr, ⟨_, hD, ?_, fun y => ?_⟩, hg.grown⟩
  · have := Maps.size_del (k := x) (h1.tidy K)
    rw [has_view, ← h3 x, h2] at this
    omega
  · by_cases e : y = x
    · subst e
      rw [(view_del y).1, hf.1]
    · rw [(view_del x).2 y e, hf.2 y e, h3 y]
/-- 'len(m)' -/
theorem MapIs.len (h : MapIs P k w b n s f) {t e : TypeId} (ht : P.underlying t = some (.map k e)) (ty : TypeId) : (Builtin.len_ #[t] ty #[.map (some b)]).run P w = .ok (.int .i64 s) w := by
  obtain ⟨D, h1, h2, _⟩ := h
  rw [← h2]
  exact h1.len ht ty
theorem MapIs.size_le (h : MapIs P k w b n s f) : s ≤ n := by
  obtain ⟨D, h1, h2, _⟩ := h
  rw [← h2]
  exact h1.size_le
end
/-! ### At the operation, for the walk -/
section
variable {P : Program} {ops : Array Oper} {rest : List Oper} {o : Oper} {a : Act} {Q : Exit → Act → World → Prop} {w : World} {k : TypeId} {b n s : Nat} {f : Lit → Option Value}
/-- '(at_lookup; refine wp_look rfl _ _ rfl LAW A.underlyingT zeroE rfl M.out rfl KEY ?_)' -/
theorem wp_look (hg : o.guard = none) (m x : Operand) {t e : TypeId} (hop : o.op = Op.lookup t m x false) (K : Keyed P k) (ht : P.underlying t = some (.map k e)) {z : Value} (hz : (zeroValue e).run P w = .ok z w)
    (hm : a.eval m = .map (some b)) (h : MapIs P k w b n s f) {key : Value} {l : Lit} (hx : a.eval x = key) (hkey : keyOf P k key = some l)
    (hK : wpList P ops Q rest (a.put o.dst ((f l).getD z)) w) : wpList P ops Q (o :: rest) a w := by
  refine wpList_plain hg fun K' hK' => ?_
  unfold Oper.wp
  simp [execOp, hop, hm, hx, h.look K ht hz hkey, Result.andThen]
  exact hK' _ _ hK
theorem wp_look_ok (hg : o.guard = none) (m x : Operand) {t e : TypeId} (hop : o.op = Op.lookup t m x true) (K : Keyed P k) (ht : P.underlying t = some (.map k e)) {z : Value} (hz : (zeroValue e).run P w = .ok z w)
    (hm : a.eval m = .map (some b)) (h : MapIs P k w b n s f) {key : Value} {l : Lit} (hx : a.eval x = key) (hkey : keyOf P k key = some l)
    (hK : wpList P ops Q rest (a.put o.dst (.tuple #[(f l).getD z, .bool (f l).isSome])) w) : wpList P ops Q (o :: rest) a w := by
  refine wpList_plain hg fun K' hK' => ?_
  unfold Oper.wp
  simp [execOp, hop, hm, hx, h.look_ok K ht hz hkey, Result.andThen]
  exact hK' _ _ hK
/-- '(at_mapUpdate; refine wp_store rfl _ _ _ rfl LAW A.underlyingT rfl M.out (by omega) rfl rfl KEY ?_; intro w1 m1 g1)' -/
theorem wp_store (hg : o.guard = none) (m x v : Operand) {t e : TypeId} (hop : o.op = Op.mapUpdate t m x v) (K : Keyed P k) (ht : P.underlying t = some (.map k e))
    (hm : a.eval m = .map (some b)) (h : MapIs P k w b n s f) (hn : n < maxLen) {key val : Value} {l : Lit} (hx : a.eval x = key) (hv : a.eval v = val) (hkey : keyOf P k key = some l) {f' : Lit → Option Value} (hf : PutF f f' l (some val))
    (hK : ∀ w', MapIs P k w' b (n + 1) (if (f l).isSome then s else s + 1) f' → w.grownBy w' (some b) → wpList P ops Q rest (a.put o.dst undef) w') : wpList P ops Q (o :: rest) a w := by
  refine wpList_plain hg fun K' hK' => ?_
  obtain ⟨w', hrun, r1, r2⟩ := h.store K ht hn hkey hf
  unfold Oper.wp
  simp [execOp, hop, hm, hx, hv, hrun, Result.andThen]
  exact hK' _ _ (hK w' r1 r2)
/-- '(at_delete; refine wp_drop rfl _ _ rfl LAW A.underlyingT rfl M.out rfl KEY ?_; intro w1 m1 g1)' -/
theorem wp_drop (hg : o.guard = none) (m x : Operand) {t e : TypeId} (hop : o.op = Op.call { callee := Callee.builtin Builtin.delete, args := #[m, x], argTypes := #[t, k] }) (K : Keyed P k) (ht : P.underlying t = some (.map k e))
    (hm : a.eval m = .map (some b)) (h : MapIs P k w b n s f) {key : Value} {l : Lit} (hx : a.eval x = key) (hkey : keyOf P k key = some l) {f' : Lit → Option Value} (hf : PutF f f' l none)
    (hK : ∀ w', MapIs P k w' b n (s - if (f l).isSome then 1 else 0) f' → w.grownBy w' (some b) → wpList P ops Q rest (a.put o.dst (.tuple #[])) w') : wpList P ops Q (o :: rest) a w := by
  refine wpList_plain hg fun K' hK' => ?_
  obtain ⟨w', hrun, r1, r2⟩ := h.drop K ht hkey o.type hf
  unfold Oper.wp
  simp [execOp, hop, resolve, invoke, builtin, hm, hx, hrun, Result.andThen]
  exact hK' _ _ (hK w' r1 r2)
theorem wp_len (hg : o.guard = none) (m : Operand) {t e : TypeId} (hop : o.op = Op.call { callee := Callee.builtin Builtin.len, args := #[m], argTypes := #[t] }) (ht : P.underlying t = some (.map k e)) (hm : a.eval m = .map (some b)) (h : MapIs P k w b n s f)
    (hK : wpList P ops Q rest (a.put o.dst (.int .i64 s)) w) : wpList P ops Q (o :: rest) a w := by
  refine wpList_plain hg fun K' hK' => ?_
  unfold Oper.wp
  simp [execOp, hop, resolve, invoke, builtin, hm, h.len ht o.type, Result.andThen]
  exact hK' _ _ hK
end
/-! ### A nil map -/
theorem look_nil {P : Program} {w : World} {k t e : TypeId} (c : Bool) (K : Keyed P k) (ht : P.underlying t = some (.map k e)) {z : Value} (hz : (zeroValue e).run P w = .ok z w) {key : Value} {x : Lit} (hkey : keyOf P k key = some x) :
    (Instr.lookup t (.map none) key c).run P w = .ok (if c then .tuple #[z, .bool false] else z) w :=
  Maps.look_nil c K ht hz hkey
/-! ### A map's block lies apart from others -/
theorem map_ne {w : World} {b g : Nat} {es : Array MapEntry} {clock : Nat} {cur : Array Value} {t : TypeId} {fr : Nat × Nat} (h : w.heap[b]? = some (.map es clock)) (h' : w.heap[g]? = some (.cells cur t fr)) : b ≠ g := by
  rintro rfl
  rw [h] at h'
  injection h' with h'
  cases h'
end Go.Proofs.Ytfjnbjpenibpkaa.Mv
