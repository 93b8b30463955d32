/- The program's left in memory: its own block, what is taken, the next ones, the map of names. No condition but those stated. -/
import Derived.DeepKeys4
import Derived.Deep.LoopGhost
import Derived.Test.YthdgaoifbejpjaaM8
import Derived.Test.YthdgaoifbejpjaaM14
import Derived.Test.YthdgaoifbejpjaaM15
import Derived.Test.YthdgaoifbejpjaaM34
set_option linter.unusedVariables false
set_option linter.unusedSimpArgs false
set_option linter.unusedVariables false
set_option linter.unusedSimpArgs false
namespace Go.Proofs.Ythdgaoifbejpjaa.P16
open Go.RowKit Kd P4 P5 P11 P12 P13 P14 Mv

set_option maxRecDepth 100000
theorem laidOutO : laidOutB Try.prog = true := by kernel_rfl
theorem rowO : (81 : TypeId) < Try.prog.types.size := of_decide_eq_true (by kernel_rfl)
theorem wideO : (match Try.prog.underlying 81 with | some (.array _ _) | some (.struct _) => true | _ => false) = true := by rw [Try.underlying81]
theorem lawO : WideMaps.KeyLaw Try.prog 81 := deep_law_laid laidOutO (m := 2) (by omega) rowO (by kernel_rfl) wideO
def okL (t k : ByteArray) : Lit := .string (keyBytes [.string t.data.toList, .string k.data.toList])
theorem ktO : Try.prog.keyType 81 = true := by kernel_rfl
theorem cellsOf_o : Try.prog.cellsOf 81 = 2 := by kernel_rfl
theorem cellsOf_s : Try.prog.cellsOf 9 = 1 := by kernel_rfl
theorem manyO : ∃ m, Try.prog.types.size = m + 1 := ⟨Try.prog.types.size - 1, (Nat.succ_pred_eq_of_pos (Nat.lt_of_le_of_lt (Nat.zero_le _) rowO)).symm⟩
theorem key_o {tag key : ByteArray} (h1 : tag.size ≤ maxLen) (h2 : key.size ≤ maxLen) : keyOf Try.prog 81 (.agg #[.string tag, .string key]) = some (okL tag key) := by
  obtain ⟨m, hm⟩ := manyO
  unfold keyOf
  simp only [Try.underlying81]
  rw [if_pos (by simp [ktO, Value.formed, Try.underlying81, cellsOf_o]), hm]
  unfold Program.keyLits
  simp only [Try.underlying81, Value.cells]
  rw [if_pos (by rw [cellsOf_o]; exact ⟨rfl, by simp⟩)]
  simp [cellsOf_s, Program.keyLits, Try.underlying9, h1, h2, okL]
theorem ok_inj {t k t' k' : ByteArray} (h1 : t.size ≤ maxLen) (h2 : k.size ≤ maxLen) (h3 : t'.size ≤ maxLen) (h4 : k'.size ≤ maxLen) (h : okL t k = okL t' k') : t = t' ∧ k = k' := by
  have := lawO.inj (key_o h1 h2) (by rw [h]; exact key_o h3 h4)
  simpa using this
theorem zeroInt (w : World) : (zeroValue 3).run Try.prog w = .ok (.int .i64 0) w := by kernel_rfl
/-- what lies under a name -/
def Nmd (o : Option Value) (a : Int) : Prop := (o = none ∧ a = -1) ∨ o = some (.int .i64 a)
/-- of each tag and key: ahead of its place none is left -/
def NmOk (old : List Ol) (left : List Bool) (f : Lit → Option Value) : Prop := ∀ t k : ByteArray, t.size ≤ maxLen → k.size ≤ maxLen → t.toList.isEmpty = false → k.toList.isEmpty = false →
  ∃ i : Nat, Nmd (f (okL t k)) (nxM old t k i) ∧ ∀ (j : Nat) (h : j < old.length), j < i → isK t k old[j] = true → left[j]? = some false
/-- of each element with a key: the next one of the same -/
def NxOk (old : List Ol) (nl : List Int) (i : Nat) : Prop := ∀ (j : Nat) (h : j < old.length), i ≤ j → old[j].tag.toList.isEmpty = false → old[j].key.toList.isEmpty = false → nl[j]? = some (nxM old old[j].tag old[j].key (j + 1))
def lfV (A : Option Addr) (n c g F m h : Nat) : Obj := .cells #[.slice A n c, .slice (some ⟨g, 0, none⟩) n n, .int .i64 (F : Int), .map (some m), .slice (some ⟨h, 0, none⟩) n n] 104 (0, 0)
structure Lf (w : World) (B p g h m : Nat) (A : Option Addr) (n c : Nat) (old : List Ol) (left : List Bool) (F s : Nat) (f : Lit → Option Value) (nl : List Int) : Prop where
  blk : w.heap[p]? = some (lfV A n c g F m h)
  Bp : B ≤ p
  Bm : B ≤ m
  old_ : kO.Holds w B A old
  own : kBo.Own w B (.slice (some ⟨g, 0, none⟩) n n) (left.map not)
  nx : kI.Own w B (.slice (some ⟨h, 0, none⟩) n n) nl
  map : MapIs Try.prog 81 w m s s f
  sz : s ≤ 1000
  len : old.length = n
  lenL : left.length = n
  small : n ≤ 1000
  szs : ∀ o ∈ old, o.tag.size ≤ maxLen ∧ o.key.size ≤ maxLen
  front : F ≤ n
  gone : ∀ i : Nat, i < F → left[i]? = some false
  nm : NmOk old left f
  nxt : NxOk old nl 0
/-- what its calls write -/
def W3 (p g m : Nat) (k : Nat) : Prop := k = p ∨ k = g ∨ k = m
section
variable {w w' : World} {B p g h m : Nat} {A : Option Addr} {n c : Nat} {old : List Ol} {left : List Bool} {F s : Nat} {f : Lit → Option Value} {nl : List Int}
theorem not_map' {k : TypeId} {b n s : Nat} {f : Lit → Option Value} (h : MapIs Try.prog k w b n s f) {g : Nat} {cur : Array Value} {t : TypeId} {fr : Nat × Nat} (h' : w.heap[g]? = some (.cells cur t fr)) : g ≠ b := fun e => by
  obtain ⟨es, cl, hb⟩ := h.blk
  exact map_ne hb h' e.symm
theorem Lf.gty (x : Lf w B p g h m A n c old left F s f nl) : ∃ cur, w.heap[g]? = some (.cells cur 4 (0, 0)) := x.own.ty rfl
theorem Lf.hty (x : Lf w B p g h m A n c old left F s f nl) : ∃ cur, w.heap[h]? = some (.cells cur 3 (0, 0)) := x.nx.ty rfl
theorem Lf.pg (x : Lf w B p g h m A n c old left F s f nl) : p ≠ g := by obtain ⟨cur, hc⟩ := x.gty; exact heap_ne x.blk hc (by decide)
theorem Lf.ph (x : Lf w B p g h m A n c old left F s f nl) : p ≠ h := by obtain ⟨cur, hc⟩ := x.hty; exact heap_ne x.blk hc (by decide)
theorem Lf.gh (x : Lf w B p g h m A n c old left F s f nl) : g ≠ h := by obtain ⟨cur, hc⟩ := x.hty; obtain ⟨cur', hc'⟩ := x.gty; exact heap_ne hc' hc (by decide)
theorem Lf.pm (x : Lf w B p g h m A n c old left F s f nl) : p ≠ m := not_map' x.map x.blk
theorem Lf.gm (x : Lf w B p g h m A n c old left F s f nl) : g ≠ m := by obtain ⟨cur, hc⟩ := x.gty; exact not_map' x.map hc
theorem Lf.hm (x : Lf w B p g h m A n c old left F s f nl) : h ≠ m := by obtain ⟨cur, hc⟩ := x.hty; exact not_map' x.map hc
theorem Lf.Bg (x : Lf w B p g h m A n c old left F s f nl) : B ≤ g := (x.own.lt rfl).1
theorem Lf.Bh (x : Lf w B p g h m A n c old left F s f nl) : B ≤ h := (x.nx.lt rfl).1
theorem Lf.plt (x : Lf w B p g h m A n c old left F s f nl) : p < w.heap.size := heap_lt x.blk
theorem Lf.le (x : Lf w B p g h m A n c old left F s f nl) : B ≤ w.heap.size := by have := x.plt; have := x.Bp; omega
/-- others are written -/
theorem Lf.but {S : Nat → Prop} (x : Lf w B p g h m A n c old left F s f nl) (hb : But S w w') (hS : ∀ i, S i → B ≤ i ∧ i ≠ p ∧ i ≠ g ∧ i ≠ h ∧ i ≠ m) : Lf w' B p g h m A n c old left F s f nl := by
  have keep : ∀ i, i < w.heap.size → i = p ∨ i = g ∨ i = h ∨ i = m → w'.heap[i]? = w.heap[i]? := fun i hi e => hb.block i hi (fun hs => by
    obtain ⟨_, h1, h2, h3, h4⟩ := hS i hs
    rcases e with e | e | e | e <;> contradiction)
  exact { x with
    blk := (keep p x.plt (.inl rfl)).trans x.blk
    old_ := x.old_.keep (fun b _ hlt => hb.block b (by have := x.le; omega) (fun hs => by have := (hS b hs).1; omega))
    own := x.own.keep (fun i hi => keep i (x.own.lt hi).2 (.inr (.inl (Option.some.inj hi).symm)))
    nx := x.nx.keep (fun i hi => keep i (x.nx.lt hi).2 (.inr (.inr (.inl (Option.some.inj hi).symm))))
    map := x.map.kept (keep m x.map.lt (.inr (.inr (.inr rfl)))) }
theorem Lf.below {C : Nat} (x : Lf w B p g h m A n c old left F s f nl) (hb : Below C w w') (h1 : B ≤ C) (h2 : p < C) (h3 : g < C) (h4 : h < C) (h5 : m < C) : Lf w' B p g h m A n c old left F s f nl :=
  x.but (S := fun i => C ≤ i) ⟨hb.os, hb.tape, hb.output, hb.size, fun i _ hn => hb.block i (by omega)⟩ (fun i hi => by omega)
theorem Lf.on (x : Lf w B p g h m A n c old left F s f nl) (hb : Below w.heap.size w w') : Lf w' B p g h m A n c old left F s f nl :=
  x.below hb x.le x.plt (x.own.lt rfl).2 (x.nx.lt rfl).2 x.map.lt
theorem Lf.drewN (x : Lf w B p g h m A n c old left F s f nl) (k : Nat) : Lf (w.drewN k) B p g h m A n c old left F s f nl := x.on (Below_drewN (Below.refl _ _) k)
theorem Lf.alloc (x : Lf w B p g h m A n c old left F s f nl) (o : Obj) : Lf (w.alloc o) B p g h m A n c old left F s f nl := x.on ((Below.refl _ _).alloc (Nat.le_refl _) o)
theorem Lf.noI (x : Lf w B p g h m A n c old left F s f nl) {B' : Nat} {v : Value} {l : List Int} (hv : kI.Own w B' v l) : ∀ i, v.ownBlock = some i → ¬ W3 p g m i := fun i hi hw => by
  obtain ⟨cur, hc⟩ := hv.ty hi
  obtain ⟨cur', hg⟩ := x.gty
  rcases hw with rfl | rfl | rfl
  · exact heap_ne x.blk hc (by decide) rfl
  · exact heap_ne hg hc (by decide) rfl
  · exact not_map' x.map hc rfl
/-! ### Its cells -/
theorem Lf.c0 (x : Lf w B p g h m A n c old left F s f nl) : w.cell? ⟨p, 0, none⟩ = some (.slice A n c) := cell_of_row w p 0 _ _ (0, 0) x.blk
theorem Lf.c1 (x : Lf w B p g h m A n c old left F s f nl) : w.cell? ⟨p, 1, none⟩ = some (.slice (some ⟨g, 0, none⟩) n n) := cell_of_row w p 1 _ _ (0, 0) x.blk
theorem Lf.c2 (x : Lf w B p g h m A n c old left F s f nl) : w.cell? ⟨p, 2, none⟩ = some (.int .i64 (F : Int)) := cell_of_row w p 2 _ _ (0, 0) x.blk
theorem Lf.c3 (x : Lf w B p g h m A n c old left F s f nl) : w.cell? ⟨p, 3, none⟩ = some (.map (some m)) := cell_of_row w p 3 _ _ (0, 0) x.blk
theorem Lf.c4 (x : Lf w B p g h m A n c old left F s f nl) : w.cell? ⟨p, 4, none⟩ = some (.slice (some ⟨h, 0, none⟩) n n) := cell_of_row w p 4 _ _ (0, 0) x.blk
theorem Lf.fz (x : Lf w B p g h m A n c old left F s f nl) (o : Nat) : w.frozen? ⟨p, o, none⟩ = false := by
  have hb := x.blk
  unfold lfV at hb
  simp [World.frozen?, hb]
/-- whether one is taken -/
theorem Lf.taken (x : Lf w B p g h m A n c old left F s f nl) {i : Nat} (hi : i < n) : ∃ b, left[i]? = some b ∧ w.cell? ⟨g, i, none⟩ = some (.bool (!b)) ∧ w.frozen? ⟨g, i, none⟩ = false := by
  have hl : i < left.length := by have := x.lenL; omega
  obtain ⟨h1, h2, _⟩ := own_bool x.own (k := i) (by simpa using hl)
  exact ⟨left[i], List.getElem?_eq_getElem hl, by simpa using h1, h2⟩
/-- the next one of the same -/
theorem Lf.next (x : Lf w B p g h m A n c old left F s f nl) {i : Nat} (hi : i < old.length) (h1 : old[i].tag.toList.isEmpty = false) (h2 : old[i].key.toList.isEmpty = false) : w.cell? ⟨h, i, none⟩ = some (.int .i64 (nxM old old[i].tag old[i].key (i + 1))) := by
  obtain ⟨A', n', c', hv, e1, _, _, _, e5⟩ := x.nx.slice
  injection hv with h3 h4 h5
  subst h3; subst h4; subst h5
  have hn := x.nxt i hi (Nat.zero_le _) h1 h2
  obtain ⟨hlt, hel⟩ := List.getElem?_eq_some_iff.1 hn
  obtain ⟨b, o, hA, _, hc⟩ := cell_int e5 hlt
  injection hA with hA
  injection hA with e1 e2 _
  subst e1; subst e2
  rw [hel] at hc
  simpa using hc
/-! ### Its steps -/
theorem map_set {left : List Bool} {i : Nat} : (left.map not).set i true = (left.set i false).map not := by
  rw [List.map_set]
  rfl
theorem set_mono {left : List Bool} {i j : Nat} (hj : left[j]? = some false) : (left.set i false)[j]? = some false := by
  rw [List.getElem?_set]
  have hl : j < left.length := (List.getElem?_eq_some_iff.1 hj).1
  by_cases e : i = j
  · subst e
    rw [if_pos rfl, if_pos hl]
  · rw [if_neg e]
    exact hj
theorem NmOk.mono {left' : List Bool} (hn : NmOk old left f) (hm : ∀ j : Nat, left[j]? = some false → left'[j]? = some false) : NmOk old left' f := fun t k h1 h2 h3 h4 => by
  obtain ⟨i, e1, e2⟩ := hn t k h1 h2 h3 h4
  exact ⟨i, e1, fun j h hj hk => hm j (e2 j h hj hk)⟩
/-- the front goes on -/
theorem Lf.step (x : Lf w B p g h m A n c old left F s f nl) (hF : F < n) (hl : left[F]? = some false) : Lf (w.setCell ⟨p, 2, none⟩ (.int .i64 ((F : Int) + 1))) B p g h m A n c old left (F + 1) s f nl := by
  have hb : But (fun k => k = p) w (w.setCell ⟨p, 2, none⟩ (.int .i64 ((F : Int) + 1))) := set_but w p 2 _
  have hk : ∀ i, i < w.heap.size → i ≠ p → (w.setCell ⟨p, 2, none⟩ (.int .i64 ((F : Int) + 1))).heap[i]? = w.heap[i]? := fun i hi hn => hb.block i hi hn
  exact { x with
    blk := heap_set x.blk 2 _
    old_ := x.old_.keep (fun b _ hlt => hk b (by have := x.le; omega) (fun e => by have := x.Bp; omega))
    own := x.own.but hb (fun i hi e => x.pg (by rw [← e]; exact Option.some.inj hi.symm))
    nx := x.nx.but hb (fun i hi e => x.ph (by rw [← e]; exact Option.some.inj hi.symm))
    map := x.map.kept (hk m x.map.lt (fun e => x.pm e.symm))
    front := hF
    gone := fun i hi => by
      by_cases e : i = F
      · subst e; exact hl
      · exact x.gone i (by omega) }
/-- one is taken -/
theorem Lf.take (x : Lf w B p g h m A n c old left F s f nl) {i : Nat} (hi : i < n) : Lf (w.setCell ⟨g, i, none⟩ (.bool true)) B p g h m A n c old (left.set i false) F s f nl := by
  have hb : But (fun k => k = g) w (w.setCell ⟨g, i, none⟩ (.bool true)) := set_but w g i _
  have hk : ∀ j, j < w.heap.size → j ≠ g → (w.setCell ⟨g, i, none⟩ (.bool true)).heap[j]? = w.heap[j]? := fun j hj hn => hb.block j hj hn
  have hl : i < left.length := by have := x.lenL; omega
  obtain ⟨_, _, st⟩ := own_bool x.own (k := i) (by simpa using hl)
  have st := st true
  rw [map_set] at st
  exact { x with
    blk := (hk p x.plt x.pg).trans x.blk
    old_ := x.old_.keep (fun b _ hlt => hk b (by have := x.le; omega) (fun e => by have := x.Bg; omega))
    own := st
    nx := x.nx.but hb (fun j hj e => x.gh (by rw [← e]; exact Option.some.inj hj.symm))
    map := x.map.kept (hk m x.map.lt (fun e => x.gm e.symm))
    lenL := by rw [List.length_set]; exact x.lenL
    gone := fun j hj => set_mono (x.gone j hj)
    nm := x.nm.mono (fun j hj => set_mono hj) }
/-- a name's place goes on -/
theorem Lf.name (x : Lf w B p g h m A n c old left F s f nl) {t k : ByteArray} {a : Int} (ht : t.size ≤ maxLen) (hk : k.size ≤ maxLen) (hs : (f (okL t k)).isSome = true) (i : Nat) (ha : nxM old t k i = a) (hi : ∀ (j : Nat) (h : j < old.length), j < i → isK t k old[j] = true → left[j]? = some false)
    (hm : MapIs Try.prog 81 w' m (s + 1) (if (f (okL t k)).isSome then s else s + 1) (setL f (okL t k) (some (.int .i64 a)))) (hg : w.grownBy w' (some m)) : Lf w' B p g h m A n c old left F s (setL f (okL t k) (some (.int .i64 a))) nl := by
  have hb : But (fun k => k = m) w w' := But.of_grown hg (fun j hj _ => (Option.some.inj hj).symm)
  rw [if_pos hs] at hm
  exact { x with
    blk := (hb.block p x.plt x.pm).trans x.blk
    old_ := x.old_.keep (fun b _ hlt => hb.block b (by have := x.le; omega) (fun e => by have := x.Bm; omega))
    own := x.own.but hb (fun j hj e => x.gm (by rw [← e]; exact Option.some.inj hj))
    nx := x.nx.but hb (fun j hj e => x.hm (by rw [← e]; exact Option.some.inj hj))
    map := hm.tight
    nm := fun t' k' h1 h2 h3 h4 => by
      by_cases e : okL t' k' = okL t k
      · obtain ⟨rfl, rfl⟩ := ok_inj h1 h2 ht hk e
        exact ⟨i, .inr (by rw [(setL_put f _ _).1, ha]), hi⟩
      · rw [(setL_put f _ _).2 _ e]
        exact x.nm t' k' h1 h2 h3 h4 }
end
end Go.Proofs.Ythdgaoifbejpjaa.P16

/- What the program's isElement, namedAt, first answer. No condition but those stated. -/
set_option linter.unusedVariables false
set_option linter.unusedSimpArgs false
namespace Go.Proofs.Ythdgaoifbejpjaa.P16
open Go.RowKit Kd P4 P5 P11 P12 P13 P14 Mv

set_option maxRecDepth 100000
theorem isElement_any (t k : ByteArray) (w : World) : Calls Try.prog 48 #[.agg #[.string t, .string k]] w fun e w' => e = .returned (.bool (!t.toList.isEmpty)) ∧ Below w.heap.size w w' := by
  have B1 : Hid (Below w.heap.size w (w.alloc (.cells #[.string t, .string k] 81))) := Lib.hid ((Below.refl _ _).alloc (Nat.le_refl _) _)
  have X1 : Hid ((w.alloc (.cells #[.string t, .string k] 81)).heap[w.heap.size]? = some (.cells #[.string t, .string k] 81 (0, 0))) := Lib.hid (heap_alloc_new w _)
  go_enter Try.func48, Try.ntmps48
  go_upto_region 1 with fail
  generalize w.alloc (.cells #[.string t, .string k] 81) = W at B1 X1 ⊢
  have a0 : W.cell? ⟨w.heap.size, 0, none⟩ = some (.string t) := cell_of_row W w.heap.size 0 _ _ (0, 0) X1.out
  obtain ⟨et, het⟩ : ∃ b, t.toList.isEmpty = b := ⟨_, rfl⟩
  cases et
  all_goals
    go_wp2_with fail
    go_ret
    exact ⟨by first | rfl | simp [het], B1.out⟩
set_option maxHeartbeats 1000000 in
theorem namedAt_at {w : World} {p m n s : Nat} {f : Lit → Option Value} (hc : w.cell? ⟨p, 3, none⟩ = some (.map (some m))) (hp : p < w.heap.size) (hm : MapIs Try.prog 81 w m n s f) (t k : ByteArray) (ht : t.size ≤ maxLen) (hk : k.size ≤ maxLen) (a : Int) (ha : Nmd (f (okL t k)) a) :
    Calls Try.prog 49 #[.pointer (some ⟨p, 0, none⟩), .agg #[.string t, .string k]] w fun e w' => e = .returned (.int .i64 a) ∧ Below w.heap.size w w' := by
  have HC := Lib.hid hc
  have HP : Hid (p < w.heap.size) := Lib.hid hp
  have HKEY : Hid (keyOf Try.prog 81 (.agg #[.string t, .string k]) = some (okL t k)) := Lib.hid (key_o ht hk)
  have B1 : Hid (Below w.heap.size w (w.alloc (.cells #[.string t, .string k] 81))) := Lib.hid ((Below.refl _ _).alloc (Nat.le_refl _) _)
  have X1 : Hid ((w.alloc (.cells #[.string t, .string k] 81)).heap[w.heap.size]? = some (.cells #[.string t, .string k] 81 (0, 0))) := Lib.hid (heap_alloc_new w _)
  have XL := Lib.hid (hm.alloc (.cells #[.string t, .string k] 81))
  clear hm hc hp
  go_enter Try.func49, Try.ntmps49
  go_upto_region 1 with fail
  have c3 := (B1.out.cell (p := ⟨p, 3, none⟩) HP.out).trans HC.out
  generalize w.alloc (.cells #[.string t, .string k] 81) = W at B1 X1 XL c3 ⊢
  have a0 : W.cell? ⟨w.heap.size, 0, none⟩ = some (.string t) := cell_of_row W w.heap.size 0 _ _ (0, 0) X1.out
  have a1 : W.cell? ⟨w.heap.size, 1, none⟩ = some (.string k) := cell_of_row W w.heap.size 1 _ _ (0, 0) X1.out
  rcases ha with ⟨hn, rfl⟩ | hs
  · have hl := (XL.out.kept (w' := W.drew) rfl).look_ok (Maps.Keyed.of_law lawO) Try.underlying102 (zeroInt _) HKEY.out
    rw [hn] at hl
    go_region_held3 (fun w' => w'.cell? ⟨p, 3, none⟩ = some (.map (some m)) ∧ w'.cell? ⟨w.heap.size, 0, none⟩ = some (.string t) ∧ w'.cell? ⟨w.heap.size, 1, none⟩ = some (.string k)) (go_keep) (fail)
    go_wp2_with fail
    go_ret
    exact ⟨rfl, Below_drewN B1.out _⟩
  · have hl := (XL.out.kept (w' := W.drew) rfl).look_ok (Maps.Keyed.of_law lawO) Try.underlying102 (zeroInt _) HKEY.out
    rw [hs] at hl
    go_region_held3 (fun w' => w'.cell? ⟨p, 3, none⟩ = some (.map (some m)) ∧ w'.cell? ⟨w.heap.size, 0, none⟩ = some (.string t) ∧ w'.cell? ⟨w.heap.size, 1, none⟩ = some (.string k)) (go_keep) (fail)
    go_wp2_with fail
    go_ret
    exact ⟨rfl, Below_drewN B1.out _⟩
theorem namedAt_any {w : World} {B p g h m : Nat} {A : Option Addr} {n c : Nat} {old : List Ol} {left : List Bool} {F s : Nat} {f : Lit → Option Value} {nl : List Int} (x : Lf w B p g h m A n c old left F s f nl) (t k : ByteArray) (ht : t.size ≤ maxLen) (hk : k.size ≤ maxLen) (a : Int) (ha : Nmd (f (okL t k)) a) :
    Calls Try.prog 49 #[.pointer (some ⟨p, 0, none⟩), .agg #[.string t, .string k]] w fun e w' => e = .returned (.int .i64 a) ∧ Below w.heap.size w w' := namedAt_at x.c3 x.plt x.map t k ht hk a ha
/-- the first one that is left -/
def FrA (left : List Bool) (n F : Nat) (a : Int) : Prop := (F = n ∧ a = -1) ∨ (F < n ∧ a = (F : Int) ∧ left[F]? = some true)
set_option maxHeartbeats 4000000 in
theorem first_any {w : World} {B p g h m : Nat} {A : Option Addr} {n c : Nat} {old : List Ol} {left : List Bool} {F s : Nat} {f : Lit → Option Value} {nl : List Int} (x : Lf w B p g h m A n c old left F s f nl) :
    Calls Try.prog 55 #[.pointer (some ⟨p, 0, none⟩)] w fun e w' => ∃ (F' : Nat) (a : Int), e = .returned (.int .i64 a) ∧ FrA left n F' a ∧ F ≤ F' ∧ Lf w' B p g h m A n c old left F' s f nl ∧ But (fun k => k = p) w w' := by
  have ST : Hid (Lf w B p g h m A n c old left F s f nl) := Lib.hid x
  have hsm := x.small
  have hnc : F ≤ n := x.front
  clear x
  go_enter Try.func55, Try.ntmps55
  go_wp2_with fail
  go_loopg [] (n - F) (fun q wr => ∃ F' : Nat, q = n - F' ∧ F ≤ F' ∧ F' ≤ n ∧ Hid (Lf wr B p g h m A n c old left F' s f nl) ∧ Hid (But (fun k => k = p) w wr))
  case atStart => exact ⟨F, rfl, Nat.le_refl _, hnc, ST, Lib.hid (But.refl _ _)⟩
  case round =>
    obtain ⟨F', rfl, h1, h2, HX, HB⟩ := hrel
    clear ST
    have c0 := HX.out.c0
    have c1 := HX.out.c1
    have c2 := HX.out.c2
    by_cases hlt : F' < n
    · obtain ⟨b, hb, g0, gf⟩ := HX.out.taken hlt
      have HLB := Lib.hid hb
      clear hb
      cases b with
      | true =>
        go_upto_region 1 with fail
        go_quiet (fail)
        go_upto_region 3 with fail
        go_quiet (fail)
        go_wp2_with fail
        go_ret
        exact ⟨F', _, rfl, .inr ⟨hlt, rfl, HLB.out⟩, h1, HX.out.drewN _, HB.out.drewN _⟩
      | false =>
        have hfz := HX.out.fz 2
        go_upto_region 1 with fail
        go_quiet (fail)
        go_wp2_with fail
        go_roundg (n - (F' + 1))
        case measure => omega
        case rel => exact ⟨F' + 1, rfl, by omega, by omega, Lib.hid ((HX.out.drewN _).step hlt HLB.out), Lib.hid (But.setCell (S := fun k => k = p) (p := ⟨p, 2, none⟩) (HB.out.drewN _) (fun _ => rfl) _)⟩
    · obtain rfl : F' = n := by omega
      go_upto_region 1 with fail
      go_quiet (fail)
      go_upto_region 3 with fail
      go_quiet (fail)
      go_wp2_with fail
      go_ret
      exact ⟨F', _, rfl, .inl ⟨rfl, rfl⟩, h1, (HX.out.drewN _).drewN _, (HB.out.drewN _).drewN _⟩
end Go.Proofs.Ythdgaoifbejpjaa.P16

/- What the program's takeNamed answers: the first of a tag and key that is left is taken. No condition but those stated. -/
set_option linter.unusedVariables false
set_option linter.unusedSimpArgs false
namespace Go.Proofs.Ythdgaoifbejpjaa.P16
open Go.RowKit Kd P4 P5 P11 P12 P13 P14 Mv

set_option maxRecDepth 100000
/-- its state, whatever its front and its map -/
def LfE (w : World) (B p g h m : Nat) (A : Option Addr) (n c : Nat) (old : List Ol) (left : List Bool) : Prop := ∃ (F s : Nat) (f : Lit → Option Value) (nl : List Int), Lf w B p g h m A n c old left F s f nl
/-- a place is told, and taken -/
def TkV (w : World) (B p g h m : Nat) (A : Option Addr) (n c : Nat) (old : List Ol) (left : List Bool) (a : Int) (e : Ending) (w' : World) : Prop := e = .returned (.int .i64 a) ∧ LfE w' B p g h m A n c old (leftM left a) ∧ But (W3 p g m) w w'
theorem leftM_nat {left : List Bool} {i : Nat} : leftM left (i : Int) = left.set i false := by
  rw [leftM, if_pos (by omega)]
  rfl
theorem leftM_none {left : List Bool} : leftM left (-1) = left := by
  rw [leftM, if_neg (by decide)]
/-- at a place of the names -/
def AtN (old : List Ol) (left : List Bool) (t k : ByteArray) (i : Nat) : Prop := ∀ (j : Nat) (h : j < old.length), j < i → isK t k old[j] = true → left[j]? = some false
theorem at_scan {pw : PW} {old : List Ol} {left : List Bool} (h1 : pw.kind = 1) (hk : pw.key.toList.isEmpty = false) {i : Nat} (ha : AtN old left pw.tag pw.key i) :
    (nxM old pw.tag pw.key i = -1 → (scanM pw old left old.length).1 = -1) ∧ (∀ (j : Nat) (h : j < old.length), nxM old pw.tag pw.key i = (j : Int) → i ≤ j ∧ isK pw.tag pw.key old[j] = true ∧ (left[j]? = some true → (scanM pw old left old.length).1 = (j : Int)) ∧ (left[j]? = some false → AtN old left pw.tag pw.key (j + 1))) := by
  constructor
  · intro hn
    rcases nxM_spec old pw.tag pw.key _ i rfl with ⟨_, h2⟩ | ⟨j, hj, e, _⟩
    · refine scan_none_to (n := old.length) (fun j hj hl o ho f => ?_) _ (Nat.le_refl _)
      rw [takes_key h1 hk]
      rw [List.getElem?_eq_getElem hj] at ho
      injection ho with ho
      subst ho
      by_cases hji : j < i
      · cases hx : isK pw.tag pw.key old[j] with
        | false => rfl
        | true =>
          rw [ha j hj hji hx] at hl
          cases hl
      · exact h2 j hj (by omega)
    · rw [hn] at e
      omega
  · intro j hj hn
    rcases nxM_spec old pw.tag pw.key _ i rfl with ⟨e, _⟩ | ⟨j', hj', e, hij, hk', hm⟩
    · rw [hn] at e
      omega
    · rw [hn] at e
      have e : j = j' := by omega
      subst e
      refine ⟨hij, hk', fun hl => ?_, fun hl q hq hqj hqk => ?_⟩
      · refine scan_first (o := old[j]) (fun q hq hl o ho f => ?_) hl (List.getElem?_eq_getElem hj) (fun f => by rw [takes_key h1 hk]; exact hk') hj
        rw [takes_key h1 hk]
        have hql : q < old.length := by omega
        rw [List.getElem?_eq_getElem hql] at ho
        injection ho with ho
        subst ho
        by_cases hqi : q < i
        · cases hx : isK pw.tag pw.key old[q] with
          | false => rfl
          | true =>
            rw [ha q hql hqi hx] at hl
            cases hl
        · exact hm q hql (by omega) hq
      · by_cases hqi : q < i
        · exact ha q hq hqi hqk
        · by_cases e : q = j
          · subst e; exact hl
          · rw [hm q hq (by omega) (by omega)] at hqk
            cases hqk
set_option maxHeartbeats 8000000 in
theorem takeNamed_any {w : World} {B p g h m : Nat} {A : Option Addr} {n c : Nat} {old : List Ol} {left : List Bool} {F s : Nat} {f : Lit → Option Value} {nl : List Int} (x : Lf w B p g h m A n c old left F s f nl)
    (pw : PW) (h1 : pw.kind = 1) (ht : pw.tag.toList.isEmpty = false) (hk : pw.key.toList.isEmpty = false) (ht2 : pw.tag.size ≤ maxLen) (hk2 : pw.key.size ≤ maxLen) :
    Calls Try.prog 50 #[.pointer (some ⟨p, 0, none⟩), .agg #[.string pw.tag, .string pw.key]] w (TkV w B p g h m A n c old left (scanM pw old left old.length).1) := by
  have B1 : Hid (Below w.heap.size w (w.alloc (.cells #[.string pw.tag, .string pw.key] 81))) := Lib.hid ((Below.refl _ _).alloc (Nat.le_refl _) _)
  have X1 : Hid ((w.alloc (.cells #[.string pw.tag, .string pw.key] 81)).heap[w.heap.size]? = some (.cells #[.string pw.tag, .string pw.key] 81 (0, 0))) := Lib.hid (heap_alloc_new w _)
  have XL := Lib.hid (x.alloc (.cells #[.string pw.tag, .string pw.key] 81))
  have HPM : Hid (w.heap.size ≠ m) := Lib.hid (by have := x.map.lt; omega)
  have HLEN := Lib.hid x.len
  have hsm := x.small
  clear x
  have AS : Hid (∀ i, AtN old left pw.tag pw.key i → _) := Lib.hid (fun i ha => at_scan h1 hk (i := i) ha)
  have HT := Lib.hid ht
  have HK := Lib.hid hk
  have HKEY : Hid (keyOf Try.prog 81 (.agg #[.string pw.tag, .string pw.key]) = some (okL pw.tag pw.key)) := Lib.hid (key_o ht2 hk2)
  have HT2 := Lib.hid ht2
  have HK2 := Lib.hid hk2
  generalize (scanM pw old left old.length).1 = res at AS ⊢
  generalize pw.tag = t at *
  generalize pw.key = k at *
  clear h1 ht hk ht2 hk2
  go_enter Try.func50, Try.ntmps50
  go_upto_region 1 with fail
  generalize hb8 : w.heap.size = b8 at X1 HPM B1 ⊢
  rw [← hb8] at B1
  generalize w.alloc (.cells #[.string t, .string k] 81) = W at B1 X1 XL ⊢
  have a0 : W.cell? ⟨b8, 0, none⟩ = some (.string t) := cell_of_row W b8 0 _ _ (0, 0) X1.out
  have a1 : W.cell? ⟨b8, 1, none⟩ = some (.string k) := cell_of_row W b8 1 _ _ (0, 0) X1.out
  obtain ⟨i, hnm, hat⟩ := XL.out.nm t k HT2.out HK2.out HT.out HK.out
  have HAT := Lib.hid hat
  have CN := Lib.hid (namedAt_any XL.out t k HT2.out HK2.out _ hnm)
  have HNM := Lib.hid hnm
  clear hat hnm
  go_wp2_with fail
  refine CN.out.mono ?_
  rintro e w1 ⟨rfl, b1⟩
  have ST : Hid (∃ (i' : Nat) (a : Int) (f' : Lit → Option Value), n - i = n - i' ∧ Value.int .i64 (nxM old t k i) = .int .i64 a ∧ Hid (nxM old t k i' = a) ∧ Hid (AtN old left t k i') ∧ Hid (Nmd (f' (okL t k)) a) ∧ Hid (Lf w1 B p g h m A n c old left F s f' nl) ∧ Hid (But (fun q => q = m) W w1)) := Lib.hid ⟨i, _, f, rfl, rfl, Lib.hid rfl, HAT, HNM, Lib.hid (XL.out.on b1), Lib.hid (But.of_below b1 _)⟩
  clear b1 CN a0 a1 HAT HNM
  go_wp2_with fail
  go_loopg [5] (n - i) (fun q s5 wr => ∃ (i' : Nat) (a : Int) (f' : Lit → Option Value), q = n - i' ∧ s5 = .int .i64 a ∧ Hid (nxM old t k i' = a) ∧ Hid (AtN old left t k i') ∧ Hid (Nmd (f' (okL t k)) a) ∧ Hid (Lf wr B p g h m A n c old left F s f' nl) ∧ Hid (But (fun q => q = m) W wr))
  case atStart => exact ST.out
  case round =>
    obtain ⟨i', a, f', rfl, rfl, HN, HAT, HNM, HX, HB⟩ := hrel
    clear ST
    obtain ⟨AS1, AS2⟩ := AS.out i' HAT.out
    have c1 := HX.out.c1
    have c4 := HX.out.c4
    have c3 := HX.out.c3
    have hb8' := HB.out.block b8 (heap_lt X1.out) HPM.out
    have HBL := Lib.hid (hb8'.trans X1.out)
    have a0 : wr.cell? ⟨b8, 0, none⟩ = some (.string t) := cell_of_row wr b8 0 _ _ (0, 0) HBL.out
    have a1 : wr.cell? ⟨b8, 1, none⟩ = some (.string k) := cell_of_row wr b8 1 _ _ (0, 0) HBL.out
    clear hb8'
    have HBW : Hid (But (W3 p g m) w wr) := Lib.hid (((But.of_below B1.out _).trans (HB.out.mono (T := W3 p g m) (fun q _ hq => .inr (.inr hq))) (fun _ _ h => h)))
    rcases nxM_spec old t k _ i' rfl with ⟨e, _⟩ | ⟨j, hj, e, _⟩
    · have e2 : a = -1 := HN.out.symm.trans e
      subst e2
      have hres := AS1 e
      subst hres
      clear AS1 AS2 e
      go_wp2_with fail
      go_ret
      exact ⟨rfl, ⟨F, s, f', nl, by rw [leftM_none]; exact HX.out⟩, HBW.out⟩
    · have e2 : a = (j : Int) := HN.out.symm.trans e
      subst e2
      obtain ⟨hij, hjk, r1, r2⟩ := AS2 j hj e
      have hjn : j < n := by have := HLEN.out; omega
      obtain ⟨b, hb, g0, gf⟩ := HX.out.taken hjn
      cases b with
      | true =>
        have hres := r1 hb
        subst hres
        clear AS1 AS2 r1 r2 hb e hjk
        go_wp2_with fail
        go_ret
        refine ⟨rfl, ⟨F, s, f', nl, ?_⟩, ?_⟩
        · rw [leftM_nat]
          exact HX.out.take hjn
        · exact But.setCell (S := W3 p g m) (p := ⟨g, j, none⟩) HBW.out (fun _ => .inr (.inl rfl)) _
      | false =>
        have HR2 := Lib.hid (r2 hb)
        obtain ⟨rfl, rfl⟩ := isK_iff.1 hjk
        have hnx := HX.out.next hj HT.out HK.out
        obtain ⟨a', ha'⟩ : ∃ a', nxM old old[j].tag old[j].key (j + 1) = a' := ⟨_, rfl⟩
        have HA' := Lib.hid ha'
        rw [ha'] at hnx
        have hsz := HX.out.sz
        have hiss : (f' (okL old[j].tag old[j].key)).isSome = true := by
          rcases HNM.out with ⟨_, hz⟩ | hz
          · omega
          · rw [hz]; rfl
        have HIS := Lib.hid hiss
        obtain ⟨w6, run6, m6, g6⟩ := (HX.out.map.kept (w' := wr.drew) rfl).store (Maps.Keyed.of_law lawO) Try.underlying102 (by unfold maxLen; omega) (val := .int .i64 a') HKEY.out (setL_put f' (okL old[j].tag old[j].key) (some (.int .i64 a')))
        have G6 := Lib.hid (grown_drew g6)
        have L6 := Lib.hid (HX.out.name HT2.out HK2.out HIS.out (j + 1) HA'.out HR2.out m6 G6.out)
        have B6 : Hid (But (fun q => q = m) W w6) := Lib.hid (HB.out.trans (T := fun q => q = m) (But.of_grown G6.out (fun q hq _ => (Option.some.inj hq).symm)) (fun _ _ h => h))
        have hb6 := (B6.out.block b8 (heap_lt X1.out) HPM.out).trans X1.out
        have K6 : w6.cell? ⟨p, 3, none⟩ = some (.map (some m)) ∧ w6.cell? ⟨b8, 0, none⟩ = some (.string old[j].tag) ∧ w6.cell? ⟨b8, 1, none⟩ = some (.string old[j].key) := ⟨L6.out.c3, cell_of_row w6 b8 0 _ _ (0, 0) hb6, cell_of_row w6 b8 1 _ _ (0, 0) hb6⟩
        have N6 : Hid (Nmd (setL f' (okL old[j].tag old[j].key) (some (.int .i64 a')) (okL old[j].tag old[j].key)) a') := Lib.hid (.inr (setL_put f' _ _).1)
        clear AS1 AS2 r1 r2 hb e hjk g6 m6 hb6 ha' hiss
        go_upto_region 4 with fail
        go_region_held3 (fun w' => w'.cell? ⟨p, 3, none⟩ = some (.map (some m)) ∧ w'.cell? ⟨b8, 0, none⟩ = some (.string old[j].tag) ∧ w'.cell? ⟨b8, 1, none⟩ = some (.string old[j].key)) (first | go_keep | exact K6) (fail)
        go_wp2_with fail
        go_roundg (n - (j + 1))
        case measure => omega
        case rel => exact ⟨j + 1, a', _, rfl, rfl, HA', HR2, N6, L6, B6⟩
end Go.Proofs.Ythdgaoifbejpjaa.P16
