/- What the program's wish.Same answers. No condition but those stated. -/
import Derived.Deep.DeepCutAuto
import Derived.Deep.CutBlock
import Derived.Deep.RegionHeld3
import Derived.Maps.OwnSet
import Derived.Maps.OwnOps
import Derived.Test.YthdgaoifbejpjaaM3
import Derived.Test.YthdgaoifbejpjaaM4
import Derived.Test.YthdgaoifbejpjaaM11
import Derived.Test.YthdgaoifbejpjaaM16
import Derived.Test.YthdgaoifbejpjaaM23
import Derived.Test.YthdgaoifbejpjaaM26
set_option linter.unusedVariables false
set_option linter.unusedSimpArgs false
set_option linter.unusedVariables false
set_option linter.unusedSimpArgs false
namespace Go.Proofs.Ythdgaoifbejpjaa.P14
open Go.RowKit Kd P4 P5 P11 P12 P13

end Go.Proofs.Ythdgaoifbejpjaa.P14

/- Slices of strings, and what slices.Contains answers of them. No condition but those stated. -/
set_option linter.unusedVariables false
set_option linter.unusedSimpArgs false
namespace Go.Proofs.Ythdgaoifbejpjaa.P13
open Go.RowKit Kd P4

theorem infoStr : (Try.prog.info? 9).map (fun i => (i.zero, i.size, i.bytes)) = some (some (.string ⟨#[]⟩), 1, 16) := by kernel_rfl
def kStr : Kind Try.prog ByteArray where
  t := 94
  e := 9
  size := 1
  bytes := 16
  z := .string ⟨#[]⟩
  cs := fun s => [.string s]
  ht := Try.underlying94
  info := info_ex infoStr
  hzs := rfl
  hpos := by decide
  hbb := by decide
  len := fun _ => rfl
  one := fun a u hu => by simp at hu; subst hu; rfl
theorem cell_str {w : World} {B : Nat} {A : Option Addr} {l : List ByteArray} (h : kStr.Holds w B A l) {k : Nat} (hk : k < l.length) : ∃ b o, A = some ⟨b, o, none⟩ ∧ b < B ∧ w.cell? ⟨b, o + k, none⟩ = some (.string l[k]) := by
  obtain ⟨b, o, hA, hb, hc⟩ := h.at hk
  refine ⟨b, o, hA, hb, ?_⟩
  have := hc 0 _ rfl
  rw [show k * kStr.size + 0 = k from Nat.mul_one k] at this
  exact this
theorem toList_inj {s t : ByteArray} (h : s.toList = t.toList) : s = t := by
  rw [ByteArray.toList_eq, ByteArray.toList_eq] at h
  cases s; cases t
  simp only [Array.toList_inj] at h
  subst h
  rfl
theorem str_ne {s t : ByteArray} (h : s ≠ t) : (s.toList == t.toList) = false := beq_eq_false_iff_ne.2 (fun e => h (toList_inj e))
theorem str_eq {s t : ByteArray} (h : s = t) : (s.toList == t.toList) = true := by subst h; exact beq_self_eq_true _
set_option maxHeartbeats 400000 in
theorem sindex_yes (l : List ByteArray) (t : ByteArray) (A : Option Addr) (n c : Nat) (w : World) (hn : l.length = n) (hn2 : n ≤ 1000000) (ht : t ∈ l) (H : kStr.Holds w w.heap.size A l) :
    Calls Try.prog 74 #[.slice A n c, .string t] w fun e w' => (∃ k : Nat, e = .returned (.int .i64 k)) ∧ w = w' := by
  have HH := Lib.hid H
  have HN := Lib.hid hn
  have HT := Lib.hid ht
  clear H hn ht
  go_enter Try.func74, Try.ntmps74
  go_wp2_with fail
  go_loop [8] (fun i => ∃ k : Nat, k ≤ n ∧ i = .int .i64 k ∧ Hid (∀ j (h : j < l.length), j < k → l[j] ≠ t)) (fun i => n - (intOf i).toNat)
  case atStart => exact ⟨0, by omega, rfl, Lib.hid (fun j _ h => by omega)⟩
  case round =>
    obtain ⟨k, hk, rfl, HJ⟩ := hrel
    by_cases hlt : k < n
    · have hkl : k < l.length := by have := HN.out; omega
      obtain ⟨b, o, rfl, hb, hc⟩ := cell_str HH.out hkl
      by_cases he : t = l[k]
      · have hq : (t.toList == l[k].toList) = true := str_eq he
        clear he
        go_wp2
        go_ret
        exact ⟨⟨k, rfl⟩, rfl⟩
      · have hq : (t.toList == l[k].toList) = false := str_ne he
        have HE := Lib.hid he
        clear he
        go_wp2
        go_round
        case rel =>
          refine ⟨k + 1, by omega, by go_num, Lib.hid (fun j hj hjk => ?_)⟩
          by_cases e : j = k
          · subst e; exact fun e2 => HE.out e2.symm
          · exact HJ.out j hj (by omega)
        case measure => simp [intOf]; omega
    · exfalso
      obtain ⟨j, hj, e⟩ := List.mem_iff_getElem.1 HT.out
      exact HJ.out j hj (by have := HN.out; omega) e
set_option maxHeartbeats 400000 in
theorem sindex_no (l : List ByteArray) (t : ByteArray) (A : Option Addr) (n c : Nat) (w : World) (hn : l.length = n) (hn2 : n ≤ 1000000) (ht : t ∉ l) (H : kStr.Holds w w.heap.size A l) :
    Calls Try.prog 74 #[.slice A n c, .string t] w fun e w' => e = .returned (.int .i64 (-1)) ∧ w = w' := by
  have HH := Lib.hid H
  have HN := Lib.hid hn
  have HT := Lib.hid ht
  clear H hn ht
  go_enter Try.func74, Try.ntmps74
  go_wp2_with fail
  go_loop [8] (fun i => ∃ k : Nat, k ≤ n ∧ i = .int .i64 k) (fun i => n - (intOf i).toNat)
  case atStart => exact ⟨0, by omega, rfl⟩
  case round =>
    obtain ⟨k, hk, rfl⟩ := hrel
    by_cases hlt : k < n
    · have hkl : k < l.length := by have := HN.out; omega
      obtain ⟨b, o, rfl, hb, hc⟩ := cell_str HH.out hkl
      have hq : (t.toList == l[k].toList) = false := str_ne (fun e => HT.out (e ▸ List.getElem_mem hkl))
      go_wp2
      go_round
      case rel => exact ⟨k + 1, by omega, by go_num⟩
      case measure => simp [intOf]; omega
    · go_wp2
      go_ret
      exact ⟨rfl, rfl⟩
set_option maxHeartbeats 400000 in
theorem scontains_any (l : List ByteArray) (t : ByteArray) (A : Option Addr) (n c : Nat) (w : World) {r : Bool} (hr : r = true ↔ t ∈ l) (hn : l.length = n) (hn2 : n ≤ 1000000) (H : kStr.Holds w w.heap.size A l) :
    Calls Try.prog 70 #[.slice A n c, .string t] w fun e w' => e = .returned (.bool r) ∧ w = w' := by
  have HH := Lib.hid H
  have HN := Lib.hid hn
  clear H hn
  by_cases ht : t ∈ l
  · have HT := Lib.hid ht
    obtain rfl : r = true := hr.2 ht
    clear ht hr
    go_enter Try.func70, Try.ntmps70
    go_wp2_with fail
    refine (sindex_yes l t A n c w HN.out hn2 HT.out HH.out).mono ?_
    rintro e w' ⟨⟨k, rfl⟩, rfl⟩
    have hk : (0 : Int) ≤ (k : Int) := by omega
    go_wp2_with fail
    go_ret
    exact ⟨rfl, rfl⟩
  · have HT := Lib.hid ht
    obtain rfl : r = false := by cases r with | true => exact absurd (hr.1 rfl) ht | false => rfl
    clear ht hr
    go_enter Try.func70, Try.ntmps70
    go_wp2_with fail
    refine (sindex_no l t A n c w HN.out hn2 HT.out HH.out).mono ?_
    rintro e w' ⟨rfl, rfl⟩
    go_wp2_with fail
    go_ret
    exact ⟨rfl, rfl⟩
end Go.Proofs.Ythdgaoifbejpjaa.P13

/- Maps of the call's own, whatever their elements: what lies under a key, how many there are; the operations at a walk. For any program. No condition but those stated. -/
set_option linter.unusedVariables false
set_option linter.unusedSimpArgs false
namespace Go.Proofs.Ythdgaoifbejpjaa.Mv
open Go.RowKit Kd Go.ChangeMaps Go.MapKept
open Go.Maps (Keyed)

section
variable {P : Program} {w w' : World} {k : TypeId} {b n s : Nat} {f : Lit → Option Value}
/-- an element is read as itself -/
def RV (v : Value) : Option (DataW Value × List MemPlace) := some (.held v, [])
def ofD : DataW Value → Value
  | .held v => v
  | _ => undef
def viewD (D : DataW Value) (x : Lit) : Option Value := if Maps.has D x then some (ofD (D.atKey x .nil)) else none
theorem has_view (D : DataW Value) (x : Lit) : Maps.has D x = (viewD D x).isSome := by unfold viewD; cases Maps.has D x <;> rfl
/-- block b is a map of s entries (at most n ever); under a key x lies f x -/
def MapIs (P : Program) (k : TypeId) (w : World) (b n s : Nat) (f : Lit → Option Value) : Prop := ∃ D : DataW Value, w.ownsMap P k RV b n D ∧ Maps.size D = s ∧ ∀ x, f x = viewD D x
theorem MapIs.made (P : Program) (k : TypeId) (w : World) : MapIs P k (w.alloc (.map #[] 0)) w.heap.size 0 0 (fun _ => none) := ⟨.map [], World.ownsMap_made w P k RV, rfl, fun _ => rfl⟩
theorem MapIs.lt (h : MapIs P k w b n s f) : b < w.heap.size := by obtain ⟨D, h, _⟩ := h; exact h.lt
theorem MapIs.blk (h : MapIs P k w b n s f) : ∃ es clock, w.heap[b]? = some (.map es clock) := by obtain ⟨D, ⟨es, cl, hb, _⟩, _⟩ := h; exact ⟨es, cl, hb⟩
theorem MapIs.kept (h : MapIs P k w b n s f) (hb : w'.heap[b]? = w.heap[b]?) : MapIs P k w' b n s f := by
  obtain ⟨D, ⟨es, cl, h1, h2⟩, h3⟩ := h
  exact ⟨D, ⟨es, cl, hb.trans h1, h2⟩, h3⟩
theorem MapIs.below {C : Nat} (h : MapIs P k w b n s f) (hb : Below C w w') (hC : b < C) : MapIs P k w' b n s f := h.kept (hb.block b hC)
theorem MapIs.alloc (h : MapIs P k w b n s f) (o : Obj) : MapIs P k (w.alloc o) b n s f := h.kept (Below.heap_alloc w o b h.lt)
theorem MapIs.drewN (h : MapIs P k w b n s f) (j : Nat) : MapIs P k (w.drewN j) b n s f := h
theorem MapIs.mono (h : MapIs P k w b n s f) {m : Nat} (hm : n ≤ m) : MapIs P k w b m s f := by
  obtain ⟨D, h1, h2⟩ := h
  exact ⟨D, h1.mono hm, h2⟩
theorem MapIs.setCell (h : MapIs P k w b n s f) {a : Addr} (ha : b ≠ a.block) (u : Value) : MapIs P k (w.setCell a u) b n s f := by
  obtain ⟨D, h1, h2⟩ := h
  exact ⟨D, h1.setCell ha u, h2⟩
theorem MapIs.ext {g : Lit → Option Value} (h : MapIs P k w b n s f) (e : ∀ x, g x = f x) : MapIs P k w b n s g := by
  obtain ⟨D, h1, h2, h3⟩ := h
  exact ⟨D, h1, h2, fun x => (e x).trans (h3 x)⟩
theorem viewD_of {D : DataW Value} (h : w.ownsMap P k RV b n D) (K : Keyed P k) {t e : TypeId} (ht : P.underlying t = some (.map k e)) {z : Value} (hz : (zeroValue e).run P w = .ok z w) {key : Value} {x : Lit} (hkey : keyOf P k key = some x) (c : Bool) :
    (Instr.lookup t (.map (some b)) key c).run P w = .ok (if c then .tuple #[(viewD D x).getD z, .bool (viewD D x).isSome] else (viewD D x).getD z) w := by
  obtain ⟨es, clock, hb, F, _, rfl⟩ := h
  rcases Maps.fit_look c K ht hz hb F hkey with ⟨hrun, _, hat⟩ | ⟨e0, y, _, _, hrun, hRv, hat, _⟩
  · have hv : viewD (DataW.map ((es.toList.map (WideElems.rg P k RV)).foldr DataW.insert [])) x = none := by
      unfold viewD
      rw [Maps.has_false_of_atKey hat]
      rfl
    rw [hv]
    rw [hrun]
    cases c <;> rfl
  · have hy : y = (.held e0.val, []) := by
      have : RV e0.val = some y := hRv
      exact (Option.some.inj this).symm
    have hv : viewD (DataW.map ((es.toList.map (WideElems.rg P k RV)).foldr DataW.insert [])) x = some e0.val := by
      unfold viewD
      rw [Maps.has_true_of_atKey hat, hat .nil, hy]
      rfl
    rw [hv]
    rw [hrun]
    cases c <;> rfl
/-- 'm[k]' -/
theorem MapIs.look (h : MapIs P k w b n s f) (K : Keyed P k) {t e : TypeId} (ht : P.underlying t = some (.map k e)) {z : Value} (hz : (zeroValue e).run P w = .ok z w) {key : Value} {x : Lit} (hkey : keyOf P k key = some x) :
    (Instr.lookup t (.map (some b)) key false).run P w = .ok ((f x).getD z) w := by
  obtain ⟨D, h1, _, h3⟩ := h
  rw [h3 x]
  exact viewD_of h1 K ht hz hkey false
/-- 'v, ok := m[k]' -/
theorem MapIs.look_ok (h : MapIs P k w b n s f) (K : Keyed P k) {t e : TypeId} (ht : P.underlying t = some (.map k e)) {z : Value} (hz : (zeroValue e).run P w = .ok z w) {key : Value} {x : Lit} (hkey : keyOf P k key = some x) :
    (Instr.lookup t (.map (some b)) key true).run P w = .ok (.tuple #[(f x).getD z, .bool (f x).isSome]) w := by
  obtain ⟨D, h1, _, h3⟩ := h
  rw [h3 x]
  exact viewD_of h1 K ht hz hkey true
theorem view_put {D : DataW Value} (hD : Maps.IsMap D) {x : Lit} (hx : WideAt.IsKeyLit x) (v : Value) : viewD (D.put x (.held v)) x = some v ∧ ∀ y, y ≠ x → viewD (D.put x (.held v)) y = viewD D y := by
  refine ⟨?_, fun y e => ?_⟩
  · unfold viewD
    rw [Maps.has_put_same hD hx, Maps.atKey_put_same hD hx]
    rfl
  · unfold viewD
    rw [Maps.has_put_other e, Maps.atKey_put_other e]
theorem view_del {D : DataW Value} (x : Lit) : viewD (D.del x) x = none ∧ ∀ y, y ≠ x → viewD (D.del x) y = viewD D y := by
  refine ⟨?_, fun y e => ?_⟩
  · unfold viewD
    rw [Maps.has_del_same]
    rfl
  · unfold viewD
    rw [Maps.has_del_other e, Maps.atKey_del_other e]
/-- f' is f, but for v under x -/
def PutF (f f' : Lit → Option Value) (x : Lit) (v : Option Value) : Prop := f' x = v ∧ ∀ y, y ≠ x → f' y = f y
/-- 'm[k] = v' -/
theorem MapIs.store (h : MapIs P k w b n s f) (K : Keyed P k) {t e : TypeId} (ht : P.underlying t = some (.map k e)) (hn : n < maxLen) {key val : Value} {x : Lit} (hkey : keyOf P k key = some x) {f' : Lit → Option Value} (hf : PutF f f' x (some val)) :
    ∃ w', (Instr.mapUpdate t (.map (some b)) key val).run P w = .ok () w' ∧ MapIs P k w' b (n + 1) (if (f x).isSome then s else s + 1) f' ∧ w.grownBy w' (some b) := by
  obtain ⟨D, h1, h2, h3⟩ := h
  obtain ⟨w', hr, hD, hg⟩ := h1.update K ht hn hkey (val := val) (d := .held val) (ps := []) rfl
  refine ⟨w', hr, ⟨_, hD, ?_, fun y => ?_⟩, hg⟩
  · rw [Maps.size_put (h1.tidy K), has_view, ← h3 x, h2]
  · by_cases e : y = x
    · subst e
      rw [(view_put h1.isMap (K.key hkey) val).1, hf.1]
    · rw [(view_put h1.isMap (K.key hkey) val).2 y e, hf.2 y e, h3 y]
/-- 'delete(m, k)' -/
theorem MapIs.drop (h : MapIs P k w b n s f) (K : Keyed P k) {t e : TypeId} (ht : P.underlying t = some (.map k e)) {key : Value} {x : Lit} (hkey : keyOf P k key = some x) (ty : TypeId) {f' : Lit → Option Value} (hf : PutF f f' x none) :
    ∃ w', (Builtin.delete_ #[t, k] ty #[.map (some b), key]).run P w = .ok (.tuple #[]) w' ∧ MapIs P k w' b n (s - if (f x).isSome then 1 else 0) f' ∧ w.grownBy w' (some b) := by
  obtain ⟨D, h1, h2, h3⟩ := h
  obtain ⟨w', hr, hD, hg⟩ := h1.drop K ht hkey ty
  refine ⟨w', hr, ⟨_, hD, ?_, fun y => ?_⟩, hg.grown⟩
  · have := Maps.size_del (k := x) (h1.tidy K)
    rw [has_view, ← h3 x, h2] at this
    omega
  · by_cases e : y = x
    · subst e
      rw [(view_del y).1, hf.1]
    · rw [(view_del x).2 y e, hf.2 y e, h3 y]
/-- 'len(m)' -/
theorem MapIs.len (h : MapIs P k w b n s f) {t e : TypeId} (ht : P.underlying t = some (.map k e)) (ty : TypeId) : (Builtin.len_ #[t] ty #[.map (some b)]).run P w = .ok (.int .i64 s) w := by
  obtain ⟨D, h1, h2, _⟩ := h
  rw [← h2]
  exact h1.len ht ty
theorem MapIs.size_le (h : MapIs P k w b n s f) : s ≤ n := by
  obtain ⟨D, h1, h2, _⟩ := h
  rw [← h2]
  exact h1.size_le
end
/-! ### At the operation, for the walk -/
section
variable {P : Program} {ops : Array Oper} {rest : List Oper} {o : Oper} {a : Act} {Q : Exit → Act → World → Prop} {w : World} {k : TypeId} {b n s : Nat} {f : Lit → Option Value}
/-- '(at_lookup; refine wp_look rfl _ _ rfl LAW A.underlyingT zeroE rfl M.out rfl KEY ?_)' -/
theorem wp_look (hg : o.guard = none) (m x : Operand) {t e : TypeId} (hop : o.op = Op.lookup t m x false) (K : Keyed P k) (ht : P.underlying t = some (.map k e)) {z : Value} (hz : (zeroValue e).run P w = .ok z w)
    (hm : a.eval m = .map (some b)) (h : MapIs P k w b n s f) {key : Value} {l : Lit} (hx : a.eval x = key) (hkey : keyOf P k key = some l)
    (hK : wpList P ops Q rest (a.put o.dst ((f l).getD z)) w) : wpList P ops Q (o :: rest) a w := by
  refine wpList_plain hg fun K' hK' => ?_
  unfold Oper.wp
  simp [execOp, hop, hm, hx, h.look K ht hz hkey, Result.andThen]
  exact hK' _ _ hK
theorem wp_look_ok (hg : o.guard = none) (m x : Operand) {t e : TypeId} (hop : o.op = Op.lookup t m x true) (K : Keyed P k) (ht : P.underlying t = some (.map k e)) {z : Value} (hz : (zeroValue e).run P w = .ok z w)
    (hm : a.eval m = .map (some b)) (h : MapIs P k w b n s f) {key : Value} {l : Lit} (hx : a.eval x = key) (hkey : keyOf P k key = some l)
    (hK : wpList P ops Q rest (a.put o.dst (.tuple #[(f l).getD z, .bool (f l).isSome])) w) : wpList P ops Q (o :: rest) a w := by
  refine wpList_plain hg fun K' hK' => ?_
  unfold Oper.wp
  simp [execOp, hop, hm, hx, h.look_ok K ht hz hkey, Result.andThen]
  exact hK' _ _ hK
/-- '(at_mapUpdate; refine wp_store rfl _ _ _ rfl LAW A.underlyingT rfl M.out (by omega) rfl rfl KEY ?_; intro w1 m1 g1)' -/
theorem wp_store (hg : o.guard = none) (m x v : Operand) {t e : TypeId} (hop : o.op = Op.mapUpdate t m x v) (K : Keyed P k) (ht : P.underlying t = some (.map k e))
    (hm : a.eval m = .map (some b)) (h : MapIs P k w b n s f) (hn : n < maxLen) {key val : Value} {l : Lit} (hx : a.eval x = key) (hv : a.eval v = val) (hkey : keyOf P k key = some l) {f' : Lit → Option Value} (hf : PutF f f' l (some val))
    (hK : ∀ w', MapIs P k w' b (n + 1) (if (f l).isSome then s else s + 1) f' → w.grownBy w' (some b) → wpList P ops Q rest (a.put o.dst undef) w') : wpList P ops Q (o :: rest) a w := by
  refine wpList_plain hg fun K' hK' => ?_
  obtain ⟨w', hrun, r1, r2⟩ := h.store K ht hn hkey hf
  unfold Oper.wp
  simp [execOp, hop, hm, hx, hv, hrun, Result.andThen]
  exact hK' _ _ (hK w' r1 r2)
/-- '(at_delete; refine wp_drop rfl _ _ rfl LAW A.underlyingT rfl M.out rfl KEY ?_; intro w1 m1 g1)' -/
theorem wp_drop (hg : o.guard = none) (m x : Operand) {t e : TypeId} (hop : o.op = Op.call { callee := Callee.builtin Builtin.delete, args := #[m, x], argTypes := #[t, k] }) (K : Keyed P k) (ht : P.underlying t = some (.map k e))
    (hm : a.eval m = .map (some b)) (h : MapIs P k w b n s f) {key : Value} {l : Lit} (hx : a.eval x = key) (hkey : keyOf P k key = some l) {f' : Lit → Option Value} (hf : PutF f f' l none)
    (hK : ∀ w', MapIs P k w' b n (s - if (f l).isSome then 1 else 0) f' → w.grownBy w' (some b) → wpList P ops Q rest (a.put o.dst (.tuple #[])) w') : wpList P ops Q (o :: rest) a w := by
  refine wpList_plain hg fun K' hK' => ?_
  obtain ⟨w', hrun, r1, r2⟩ := h.drop K ht hkey o.type hf
  unfold Oper.wp
  simp [execOp, hop, resolve, invoke, builtin, hm, hx, hrun, Result.andThen]
  exact hK' _ _ (hK w' r1 r2)
theorem wp_len (hg : o.guard = none) (m : Operand) {t e : TypeId} (hop : o.op = Op.call { callee := Callee.builtin Builtin.len, args := #[m], argTypes := #[t] }) (ht : P.underlying t = some (.map k e)) (hm : a.eval m = .map (some b)) (h : MapIs P k w b n s f)
    (hK : wpList P ops Q rest (a.put o.dst (.int .i64 s)) w) : wpList P ops Q (o :: rest) a w := by
  refine wpList_plain hg fun K' hK' => ?_
  unfold Oper.wp
  simp [execOp, hop, resolve, invoke, builtin, hm, h.len ht o.type, Result.andThen]
  exact hK' _ _ hK
end
/-! ### A nil map -/
theorem look_nil {P : Program} {w : World} {k t e : TypeId} (c : Bool) (K : Keyed P k) (ht : P.underlying t = some (.map k e)) {z : Value} (hz : (zeroValue e).run P w = .ok z w) {key : Value} {x : Lit} (hkey : keyOf P k key = some x) :
    (Instr.lookup t (.map none) key c).run P w = .ok (if c then .tuple #[z, .bool false] else z) w :=
  Maps.look_nil c K ht hz hkey
/-! ### A map's block lies apart from others -/
theorem map_ne {w : World} {b g : Nat} {es : Array MapEntry} {clock : Nat} {cur : Array Value} {t : TypeId} {fr : Nat × Nat} (h : w.heap[b]? = some (.map es clock)) (h' : w.heap[g]? = some (.cells cur t fr)) : b ≠ g := by
  rintro rfl
  rw [h] at h'
  injection h' with h'
  cases h'
end Go.Proofs.Ythdgaoifbejpjaa.Mv

/- What the program's Check keeps while it goes through instructions, as it lies in memory; what its readers answer. No condition but those stated. -/
set_option linter.unusedVariables false
set_option linter.unusedSimpArgs false
namespace Go.Proofs.Ythdgaoifbejpjaa.P13
open Go.RowKit Kd P4 P11 P12 Mv

/-- a place: the block of its keys, and whether it is skipped -/
structure Pl where
  m : Nat
  sk : Bool
theorem infoPl : (Try.prog.info? 91).map (fun i => (i.zero, i.size, i.bytes)) = some (some (.agg #[.map none, .bool false]), 2, 16) := by kernel_rfl
def kPl : Kind Try.prog Pl where
  t := 93
  e := 91
  size := 2
  bytes := 16
  z := .agg #[.map none, .bool false]
  cs := fun a => [.map (some a.m), .bool a.sk]
  ht := Try.underlying93
  info := info_ex infoPl
  hzs := rfl
  hpos := by decide
  hbb := by decide
  len := fun _ => rfl
  one := fun a u hu => by simp at hu; rcases hu with rfl | rfl <;> rfl
theorem lawS : Go.Maps.Keyed Try.prog 9 := Go.Maps.string_keyed Try.underlying9
theorem zeroU (w : World) : (zeroValue 115).run Try.prog w = .ok (.agg #[]) w := by kernel_rfl
def skB (L : List In) : Bool := L.any (fun y => decide (y.op = 7))
def hasK (L : List In) (s : List UInt8) : Bool := !s.isEmpty && L.any (fun y => makesO y.op && (y.b.toList == s))
/-- what lies under a key at a place -/
def keysF (L : List In) : Lit → Option Value
  | .string s => if hasK L s then some (.agg #[]) else none
  | _ => none
theorem keysF_nil : keysF [] = fun _ => none := by
  funext x
  cases x <;> simp [keysF, hasK]
def keyedB (x : In) : Bool := makesO x.op && !x.b.toList.isEmpty
theorem hasK_snoc (L : List In) (x : In) (s : List UInt8) : hasK (L ++ [x]) s = (hasK L s || (keyedB x && (x.b.toList == s))) := by
  unfold hasK keyedB
  rw [List.any_append, List.any_cons, List.any_nil, Bool.or_false]
  by_cases h : x.b.toList = s
  · subst h
    cases x.b.toList.isEmpty <;> cases makesO x.op <;> simp
  · have h' : (x.b.toList == s) = false := beq_eq_false_iff_ne.2 h
    rw [h']
    simp
theorem keysF_not {L : List In} {x : In} (h : keyedB x = false) : keysF (L ++ [x]) = keysF L := by
  funext y
  cases y <;> simp [keysF, hasK_snoc, h]
theorem keysF_put {L : List In} {x : In} (h : keyedB x = true) : PutF (keysF L) (keysF (L ++ [x])) (.string x.b.toList) (some (.agg #[])) := by
  constructor
  · simp [keysF, hasK_snoc, h]
  · intro y hy
    cases y with
    | string s =>
      have hs : (x.b.toList == s) = false := beq_eq_false_iff_ne.2 (fun e => hy (by rw [e]))
      simp [keysF, hasK_snoc, hs]
    | _ => rfl
/-- the front: its own block, its places, the names that were told -/
def FrIs (w : World) (B p k : Nat) (P : List (List In)) (nm : Option (List (List UInt8))) : Prop :=
  ∃ (g c d : Nat) (ps : List Pl) (A : Option Addr) (n c' : Nat) (td : List ByteArray), B ≤ p ∧ P.length = d + 1 ∧ d ≤ 8 ∧ w.heap[p]? = some (.cells #[.slice (some ⟨g, 0, none⟩) (d + 1) c, .bool nm.isSome, .slice A n c'] 96 (0, 0)) ∧
    kPl.Own w B (.slice (some ⟨g, 0, none⟩) (d + 1) c) ps ∧ kStr.Own w B (.slice A n c') td ∧ ps.length = d + 1 ∧ (ps.map Pl.m).Nodup ∧
    (∀ i (h : i < ps.length) (h2 : i < P.length), B ≤ ps[i].m ∧ ps[i].sk = skB P[i] ∧ ∃ s, MapIs Try.prog 9 w ps[i].m k s (keysF P[i])) ∧ td.map (·.toList) = nm.getD [] ∧ td.length = n ∧ n ≤ k
/-! ### Readers -/
theorem wp_look_unit {P : Program} {ops : Array Oper} {rest : List Oper} {o : Oper} {a : Act} {Q : Exit → Act → World → Prop} {w : World} {k : TypeId} {b n s : Nat} {f : Lit → Option Value} (hg : o.guard = none) (m x : Operand) {t e : TypeId} (hop : o.op = Op.lookup t m x true) (K : Go.Maps.Keyed P k) (ht : P.underlying t = some (.map k e)) (hz : (zeroValue e).run P w = .ok (.agg #[]) w)
    (hm : a.eval m = .map (some b)) (h : MapIs P k w b n s f) {key : Value} {l : Lit} (hx : a.eval x = key) (hkey : keyOf P k key = some l) {r : Bool} (hr : f l = if r then some (.agg #[]) else none)
    (hK : wpList P ops Q rest (a.put o.dst (.tuple #[.agg #[], .bool r])) w) : wpList P ops Q (o :: rest) a w := by
  refine wp_look_ok hg m x hop K ht hz hm h hx hkey ?_
  rw [hr]
  cases r <;> exact hK
theorem depth_any (p d c : Nat) (A : Option Addr) (w : World) (h0 : w.cell? ⟨p, 0, none⟩ = some (.slice A (d + 1) c)) (hd : d ≤ 1000) :
    Calls Try.prog 46 #[.pointer (some ⟨p, 0, none⟩)] w fun e w' => e = .returned (.int .i64 d) ∧ w = w' := by
  have hw : IntKind.i64.wrap ((d : Int) + 1 - 1) = d := by
    simp [IntKind.wrap, IntKind.bits, IntKind.signed]
    omega
  go_enter Try.func46, Try.ntmps46
  go_wp2_with fail
  go_ret
  exact ⟨by first | rfl | simp, rfl⟩
theorem here_any (p g d c : Nat) (w : World) (h0 : w.cell? ⟨p, 0, none⟩ = some (.slice (some ⟨g, 0, none⟩) (d + 1) c)) (hd : d ≤ 1000) :
    Calls Try.prog 61 #[.pointer (some ⟨p, 0, none⟩)] w fun e w' => e = .returned (.pointer (some ⟨g, d * 2, none⟩)) ∧ ∃ j, w' = w.drewN j := by
  have HD : Hid (∀ w9 : World, w9.cell? ⟨p, 0, none⟩ = some (.slice (some ⟨g, 0, none⟩) (d + 1) c) → _) := Lib.hid (fun w9 h9 => depth_any p d c (some ⟨g, 0, none⟩) w9 h9 hd)
  have i0 : (0 : Int) ≤ (d : Int) := by omega
  have i1 : (d : Int) < (d : Int) + 1 := by omega
  go_enter Try.func61, Try.ntmps61
  go_upto_region 1 with fail
  go_region_held3 (fun w' => w'.cell? ⟨p, 0, none⟩ = some (.slice (some ⟨g, 0, none⟩) (d + 1) c)) (go_keep) ((first
    | (go_at_call 46; refine (HD.out _ (by first | assumption | go_keep)).mono ?_; rintro e w' ⟨rfl, rfl⟩)
    | fail))
  go_wp2_with fail
  go_ret
  exact ⟨by first | rfl | simp, 1, rfl⟩
theorem begins_any (op : Int) (w : World) : Calls Try.prog 64 #[.int .i64 op] w fun e w' => e = .returned (.bool (makesO op)) ∧ w = w' := by
  by_cases h1 : op = 1
  · subst h1
    go_enter Try.func64, Try.ntmps64
    go_wp2_with fail
    go_ret
    exact ⟨rfl, rfl⟩
  by_cases h3 : op = 3
  · subst h3
    go_enter Try.func64, Try.ntmps64
    go_wp2_with fail
    go_ret
    exact ⟨rfl, rfl⟩
  have e : makesO op = false := by simp [makesO, h1, h3]
  rw [e]
  have q1 := int_ne h1
  have q3 := int_ne h3
  go_enter Try.func64, Try.ntmps64
  go_wp2_with fail
  go_ret
  exact ⟨rfl, rfl⟩
theorem keyed_any (op : Int) (a b : ByteArray) (w : World) : Calls Try.prog 62 #[.agg #[.int .i64 op, .string a, .string b]] w fun e w' => e = .returned (.bool (keyedB ⟨op, a, b⟩)) ∧ Below w.heap.size w w' := by
  have B1 : Hid (Below w.heap.size w (w.alloc (.cells #[.int .i64 op, .string a, .string b] 71))) := Lib.hid ((Below.refl _ _).alloc (Nat.le_refl _) _)
  have N1 : Hid (XB (w.alloc (.cells #[.int .i64 op, .string a, .string b] 71)) w.heap.size ⟨op, a, b⟩) := Lib.hid (XB.new w ⟨op, a, b⟩)
  obtain ⟨r, hr⟩ : ∃ r, makesO op = r := ⟨_, rfl⟩
  have HB : Hid (∀ w9, Calls Try.prog 64 #[.int .i64 op] w9 fun e w' => e = .returned (.bool r) ∧ w9 = w') := Lib.hid (fun w9 => by subst hr; exact begins_any op w9)
  have hk : keyedB ⟨op, a, b⟩ = (r && !b.toList.isEmpty) := by unfold keyedB; rw [hr]
  rw [hk]
  go_enter Try.func62, Try.ntmps62
  go_upto_region 1 with fail
  generalize w.alloc (.cells #[.int .i64 op, .string a, .string b] 71) = W at B1 N1 ⊢
  have c0 := N1.out.c0; have c2 := N1.out.c2
  simp only at c0 c2
  cases r
  · go_wp2_with fail
    refine (HB.out _).mono ?_
    rintro e w' ⟨rfl, rfl⟩
    go_wp2_with fail
    go_ret
    exact ⟨rfl, B1.out⟩
  · by_cases hb : b.toList = []
    · have hq : (b.toList == (⟨#[]⟩ : ByteArray).toList) = true := by rw [hb]; simp [ByteArray.toList_eq]
      have hE : b.toList.isEmpty = true := by rw [hb]; rfl
      go_wp2_with fail
      refine (HB.out _).mono ?_
      rintro e w' ⟨rfl, rfl⟩
      go_wp2_with fail
      go_ret
      exact ⟨by rw [hE]; rfl, B1.out⟩
    · have hq : (b.toList == []) = false := beq_eq_false_iff_ne.2 hb
      have hE : b.toList.isEmpty = false := by cases h : b.toList with | nil => exact absurd h hb | cons _ _ => rfl
      go_wp2_with fail
      refine (HB.out _).mono ?_
      rintro e w' ⟨rfl, rfl⟩
      go_wp2_with fail
      go_ret
      exact ⟨by rw [hE]; rfl, B1.out⟩
theorem has_any (g o m n s : Nat) (f : Lit → Option Value) (key : ByteArray) (w : World) (h0 : w.cell? ⟨g, o, none⟩ = some (.map (some m))) (M : MapIs Try.prog 9 w m n s f) (hk : key.size ≤ maxLen) {r : Bool} (hr : f (.string key.toList) = if r then some (.agg #[]) else none) :
    Calls Try.prog 63 #[.pointer (some ⟨g, o, none⟩), .string key] w fun e w' => e = .returned (.bool r) ∧ Below w.heap.size w w' := by
  have HM := Lib.hid M
  have HK : Hid (keyOf Try.prog 9 (.string key) = some (.string key.toList)) := Lib.hid (by rw [ByteArray.toList_eq]; exact Go.WideMaps.keyOf_string_mk Try.underlying9 hk)
  have HR := Lib.hid hr
  clear M hk hr
  go_enter Try.func63, Try.ntmps63
  go_wp2_with (at_lookup; refine wp_look_unit rfl _ _ rfl lawS Try.underlying89 (zeroU _) rfl HM.out rfl HK.out HR.out ?_)
  go_ret
  exact ⟨rfl, (Below.refl _ _).alloc (Nat.le_refl _) _⟩
theorem newPlace_any (w : World) : Calls Try.prog 43 #[] w fun e w' => ∃ m, e = .returned (.agg #[.map (some m), .bool false]) ∧ w.heap.size ≤ m ∧ MapIs Try.prog 9 w' m 0 0 (fun _ => none) ∧ Below w.heap.size w w' := by
  have hmm := @run_makeMap Try.prog
  go_enter Try.func43, Try.ntmps43
  go_wp2_with fail
  refine bodyPost_ret (v := .agg #[.map (some (w.heap.size + 1)), .bool false]) (by simp [results, Try.results43, go_sem]) rfl ⟨w.heap.size + 1, rfl, by omega, ?_, ?_⟩
  · have := MapIs.made Try.prog 9 (w.alloc (.cells #[.map (some (w.heap.size + 1)), .bool false] 91))
    simpa using this
  · exact ((Below.refl _ w).alloc (Nat.le_refl _) _).alloc (by simp) _
theorem mayTell_any (p n c : Nat) (A : Option Addr) (tl : Bool) (td : List ByteArray) (s : ByteArray) (w : World) {r : Bool} (hr : r = true ↔ tl = true ∧ n < 8 ∧ s ∉ td) (h1 : w.cell? ⟨p, 1, none⟩ = some (.bool tl)) (h2 : w.cell? ⟨p, 2, none⟩ = some (.slice A n c))
    (hn : td.length = n) (hn2 : n ≤ 1000000) (H : kStr.Holds w w.heap.size A td) :
    Calls Try.prog 60 #[.pointer (some ⟨p, 0, none⟩), .string s] w fun e w' => e = .returned (.bool r) ∧ w = w' := by
  have HH := Lib.hid H
  have HN := Lib.hid hn
  clear H hn
  cases tl with
  | false =>
    obtain rfl : r = false := by cases r with | true => exact absurd (hr.1 rfl).1 (by decide) | false => rfl
    clear hr
    go_enter Try.func60, Try.ntmps60
    go_wp2_with fail
    go_ret
    exact ⟨rfl, rfl⟩
  | true =>
    by_cases h8 : n < 8
    · have i8 : (n : Int) < 8 := by omega
      by_cases hs : s ∈ td
      · obtain rfl : r = false := by cases r with | true => exact absurd hs (hr.1 rfl).2.2 | false => rfl
        have HC : Hid (∀ w9 : World, kStr.Holds w9 w9.heap.size A td → Calls Try.prog 70 #[.slice A n c, .string s] w9 fun e w' => e = .returned (.bool true) ∧ w9 = w') := Lib.hid (fun w9 h9 => scontains_any td s A n c w9 ⟨fun _ => hs, fun _ => rfl⟩ HN.out hn2 h9)
        clear hr hs
        go_enter Try.func60, Try.ntmps60
        go_wp2_with fail
        refine (HC.out _ HH.out).mono ?_
        rintro e w' ⟨rfl, rfl⟩
        go_wp2_with fail
        go_ret
        exact ⟨rfl, rfl⟩
      · obtain rfl : r = true := hr.2 ⟨rfl, h8, hs⟩
        have HC : Hid (∀ w9 : World, kStr.Holds w9 w9.heap.size A td → Calls Try.prog 70 #[.slice A n c, .string s] w9 fun e w' => e = .returned (.bool false) ∧ w9 = w') := Lib.hid (fun w9 h9 => scontains_any td s A n c w9 ⟨fun e => (by cases e), fun e => absurd e hs⟩ HN.out hn2 h9)
        clear hr hs
        go_enter Try.func60, Try.ntmps60
        go_wp2_with fail
        refine (HC.out _ HH.out).mono ?_
        rintro e w' ⟨rfl, rfl⟩
        go_wp2_with fail
        go_ret
        exact ⟨rfl, rfl⟩
    · have i8 : ¬ (n : Int) < 8 := by omega
      obtain rfl : r = false := by cases r with | true => exact absurd (hr.1 rfl).2.1 h8 | false => rfl
      clear hr
      go_enter Try.func60, Try.ntmps60
      go_wp2_with fail
      go_ret
      exact ⟨rfl, rfl⟩
end Go.Proofs.Ythdgaoifbejpjaa.P13
