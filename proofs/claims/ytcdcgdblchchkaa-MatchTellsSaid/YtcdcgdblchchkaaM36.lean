/- The program's left in memory: its own block, what is taken, the next ones, the map of names. No condition but those stated. -/
import Derived.DeepKeys4
import Derived.Test.YtcdcgdblchchkaaM14
import Derived.Test.YtcdcgdblchchkaaM35
set_option linter.unusedVariables false
set_option linter.unusedSimpArgs false
set_option linter.unusedVariables false
set_option linter.unusedSimpArgs false
namespace Go.Proofs.Ytcdcgdblchchkaa.P16
open Go.RowKit Kd P4 P5 P11 P12 P13 P14 Mv

set_option maxRecDepth 100000
theorem laidOutO : laidOutB Try.prog = true := by kernel_rfl
theorem rowO : (30 : TypeId) < Try.prog.types.size := of_decide_eq_true (by kernel_rfl)
theorem wideO : (match Try.prog.underlying 30 with | some (.array _ _) | some (.struct _) => true | _ => false) = true := by rw [Try.underlying30]
theorem lawO : WideMaps.KeyLaw Try.prog 30 := deep_law_laid laidOutO (m := 2) (by omega) rowO (by kernel_rfl) wideO
def okL (t k : ByteArray) : Lit := .string (keyBytes [.string t.data.toList, .string k.data.toList])
theorem ktO : Try.prog.keyType 30 = true := by kernel_rfl
theorem cellsOf_o : Try.prog.cellsOf 30 = 2 := by kernel_rfl
theorem cellsOf_s : Try.prog.cellsOf 9 = 1 := by kernel_rfl
theorem manyO : ∃ m, Try.prog.types.size = m + 1 := ⟨Try.prog.types.size - 1, (Nat.succ_pred_eq_of_pos (Nat.lt_of_le_of_lt (Nat.zero_le _) rowO)).symm⟩
theorem key_o {tag key : ByteArray} (h1 : tag.size ≤ maxLen) (h2 : key.size ≤ maxLen) : keyOf Try.prog 30 (.agg #[.string tag, .string key]) = some (okL tag key) := by
  obtain ⟨m, hm⟩ := manyO
  unfold keyOf
  simp only [Try.underlying30]
  rw [if_pos (by simp [ktO, Value.formed, Try.underlying30, cellsOf_o]), hm]
  unfold Program.keyLits
  simp only [Try.underlying30, Value.cells]
  rw [if_pos (by rw [cellsOf_o]; exact ⟨rfl, by simp⟩)]
  simp [cellsOf_s, Program.keyLits, Try.underlying9, h1, h2, okL]
theorem ok_inj {t k t' k' : ByteArray} (h1 : t.size ≤ maxLen) (h2 : k.size ≤ maxLen) (h3 : t'.size ≤ maxLen) (h4 : k'.size ≤ maxLen) (h : okL t k = okL t' k') : t = t' ∧ k = k' := by
  have := lawO.inj (key_o h1 h2) (by rw [h]; exact key_o h3 h4)
  simpa using this
theorem zeroInt (w : World) : (zeroValue 3).run Try.prog w = .ok (.int .i64 0) w := by kernel_rfl
/-- what lies under a name -/
def Nmd (o : Option Value) (a : Int) : Prop := (o = none ∧ a = -1) ∨ o = some (.int .i64 a)
/-- of each tag and key: ahead of its place none is left -/
def NmOk (old : List Ol) (left : List Bool) (f : Lit → Option Value) : Prop := ∀ t k : ByteArray, t.size ≤ maxLen → k.size ≤ maxLen → t.toList.isEmpty = false → k.toList.isEmpty = false →
  ∃ i : Nat, Nmd (f (okL t k)) (nxM old t k i) ∧ ∀ (j : Nat) (h : j < old.length), j < i → isK t k old[j] = true → left[j]? = some false
/-- of each element with a key: the next one of the same -/
def NxOk (old : List Ol) (nl : List Int) (i : Nat) : Prop := ∀ (j : Nat) (h : j < old.length), i ≤ j → old[j].tag.toList.isEmpty = false → old[j].key.toList.isEmpty = false → nl[j]? = some (nxM old old[j].tag old[j].key (j + 1))
def lfV (A : Option Addr) (n c g F m h : Nat) : Obj := .cells #[.slice A n c, .slice (some ⟨g, 0, none⟩) n n, .int .i64 (F : Int), .map (some m), .slice (some ⟨h, 0, none⟩) n n] 65 (0, 0)
structure Lf (w : World) (B p g h m : Nat) (A : Option Addr) (n c : Nat) (old : List Ol) (left : List Bool) (F s : Nat) (f : Lit → Option Value) (nl : List Int) : Prop where
  blk : w.heap[p]? = some (lfV A n c g F m h)
  Bp : B ≤ p
  Bm : B ≤ m
  old_ : kO.Holds w B A old
  own : kBo.Own w B (.slice (some ⟨g, 0, none⟩) n n) (left.map not)
  nx : kI.Own w B (.slice (some ⟨h, 0, none⟩) n n) nl
  map : MapIs Try.prog 30 w m s s f
  sz : s ≤ 1000
  len : old.length = n
  lenL : left.length = n
  small : n ≤ 1000
  szs : ∀ o ∈ old, o.tag.size ≤ maxLen ∧ o.key.size ≤ maxLen
  front : F ≤ n
  gone : ∀ i : Nat, i < F → left[i]? = some false
  nm : NmOk old left f
  nxt : NxOk old nl 0
/-- what its calls write -/
def W3 (p g m : Nat) (k : Nat) : Prop := k = p ∨ k = g ∨ k = m
section
variable {w w' : World} {B p g h m : Nat} {A : Option Addr} {n c : Nat} {old : List Ol} {left : List Bool} {F s : Nat} {f : Lit → Option Value} {nl : List Int}
theorem not_map' {k : TypeId} {b n s : Nat} {f : Lit → Option Value} (h : MapIs Try.prog k w b n s f) {g : Nat} {cur : Array Value} {t : TypeId} {fr : Nat × Nat} (h' : w.heap[g]? = some (.cells cur t fr)) : g ≠ b := fun e => by
  obtain ⟨es, cl, hb⟩ := h.blk
  exact map_ne hb h' e.symm
theorem Lf.gty (x : Lf w B p g h m A n c old left F s f nl) : ∃ cur, w.heap[g]? = some (.cells cur 4 (0, 0)) := x.own.ty rfl
theorem Lf.hty (x : Lf w B p g h m A n c old left F s f nl) : ∃ cur, w.heap[h]? = some (.cells cur 3 (0, 0)) := x.nx.ty rfl
theorem Lf.pg (x : Lf w B p g h m A n c old left F s f nl) : p ≠ g := by obtain ⟨cur, hc⟩ := x.gty; exact heap_ne x.blk hc (by decide)
theorem Lf.ph (x : Lf w B p g h m A n c old left F s f nl) : p ≠ h := by obtain ⟨cur, hc⟩ := x.hty; exact heap_ne x.blk hc (by decide)
theorem Lf.gh (x : Lf w B p g h m A n c old left F s f nl) : g ≠ h := by obtain ⟨cur, hc⟩ := x.hty; obtain ⟨cur', hc'⟩ := x.gty; exact heap_ne hc' hc (by decide)
theorem Lf.pm (x : Lf w B p g h m A n c old left F s f nl) : p ≠ m := not_map' x.map x.blk
theorem Lf.gm (x : Lf w B p g h m A n c old left F s f nl) : g ≠ m := by obtain ⟨cur, hc⟩ := x.gty; exact not_map' x.map hc
theorem Lf.hm (x : Lf w B p g h m A n c old left F s f nl) : h ≠ m := by obtain ⟨cur, hc⟩ := x.hty; exact not_map' x.map hc
theorem Lf.Bg (x : Lf w B p g h m A n c old left F s f nl) : B ≤ g := (x.own.lt rfl).1
theorem Lf.Bh (x : Lf w B p g h m A n c old left F s f nl) : B ≤ h := (x.nx.lt rfl).1
theorem Lf.plt (x : Lf w B p g h m A n c old left F s f nl) : p < w.heap.size := heap_lt x.blk
theorem Lf.le (x : Lf w B p g h m A n c old left F s f nl) : B ≤ w.heap.size := by have := x.plt; have := x.Bp; omega
/-- others are written -/
theorem Lf.but {S : Nat → Prop} (x : Lf w B p g h m A n c old left F s f nl) (hb : But S w w') (hS : ∀ i, S i → B ≤ i ∧ i ≠ p ∧ i ≠ g ∧ i ≠ h ∧ i ≠ m) : Lf w' B p g h m A n c old left F s f nl := by
  have keep : ∀ i, i < w.heap.size → i = p ∨ i = g ∨ i = h ∨ i = m → w'.heap[i]? = w.heap[i]? := fun i hi e => hb.block i hi (fun hs => by
    obtain ⟨_, h1, h2, h3, h4⟩ := hS i hs
    rcases e with e | e | e | e <;> contradiction)
  exact { x with
    blk := (keep p x.plt (.inl rfl)).trans x.blk
    old_ := x.old_.keep (fun b _ hlt => hb.block b (by have := x.le; omega) (fun hs => by have := (hS b hs).1; omega))
    own := x.own.keep (fun i hi => keep i (x.own.lt hi).2 (.inr (.inl (Option.some.inj hi).symm)))
    nx := x.nx.keep (fun i hi => keep i (x.nx.lt hi).2 (.inr (.inr (.inl (Option.some.inj hi).symm))))
    map := x.map.kept (keep m x.map.lt (.inr (.inr (.inr rfl)))) }
theorem Lf.below {C : Nat} (x : Lf w B p g h m A n c old left F s f nl) (hb : Below C w w') (h1 : B ≤ C) (h2 : p < C) (h3 : g < C) (h4 : h < C) (h5 : m < C) : Lf w' B p g h m A n c old left F s f nl :=
  x.but (S := fun i => C ≤ i) ⟨hb.os, hb.tape, hb.output, hb.size, fun i _ hn => hb.block i (by omega)⟩ (fun i hi => by omega)
theorem Lf.on (x : Lf w B p g h m A n c old left F s f nl) (hb : Below w.heap.size w w') : Lf w' B p g h m A n c old left F s f nl :=
  x.below hb x.le x.plt (x.own.lt rfl).2 (x.nx.lt rfl).2 x.map.lt
theorem Lf.drewN (x : Lf w B p g h m A n c old left F s f nl) (k : Nat) : Lf (w.drewN k) B p g h m A n c old left F s f nl := x.on (Below_drewN (Below.refl _ _) k)
theorem Lf.alloc (x : Lf w B p g h m A n c old left F s f nl) (o : Obj) : Lf (w.alloc o) B p g h m A n c old left F s f nl := x.on ((Below.refl _ _).alloc (Nat.le_refl _) o)
theorem Lf.noI (x : Lf w B p g h m A n c old left F s f nl) {B' : Nat} {v : Value} {l : List Int} (hv : kI.Own w B' v l) : ∀ i, v.ownBlock = some i → ¬ W3 p g m i := fun i hi hw => by
  obtain ⟨cur, hc⟩ := hv.ty hi
  obtain ⟨cur', hg⟩ := x.gty
  rcases hw with rfl | rfl | rfl
  · exact heap_ne x.blk hc (by decide) rfl
  · exact heap_ne hg hc (by decide) rfl
  · exact not_map' x.map hc rfl
/-! ### Its cells -/
theorem Lf.c0 (x : Lf w B p g h m A n c old left F s f nl) : w.cell? ⟨p, 0, none⟩ = some (.slice A n c) := cell_of_row w p 0 _ _ (0, 0) x.blk
theorem Lf.c1 (x : Lf w B p g h m A n c old left F s f nl) : w.cell? ⟨p, 1, none⟩ = some (.slice (some ⟨g, 0, none⟩) n n) := cell_of_row w p 1 _ _ (0, 0) x.blk
theorem Lf.c2 (x : Lf w B p g h m A n c old left F s f nl) : w.cell? ⟨p, 2, none⟩ = some (.int .i64 (F : Int)) := cell_of_row w p 2 _ _ (0, 0) x.blk
theorem Lf.c3 (x : Lf w B p g h m A n c old left F s f nl) : w.cell? ⟨p, 3, none⟩ = some (.map (some m)) := cell_of_row w p 3 _ _ (0, 0) x.blk
theorem Lf.c4 (x : Lf w B p g h m A n c old left F s f nl) : w.cell? ⟨p, 4, none⟩ = some (.slice (some ⟨h, 0, none⟩) n n) := cell_of_row w p 4 _ _ (0, 0) x.blk
theorem Lf.fz (x : Lf w B p g h m A n c old left F s f nl) (o : Nat) : w.frozen? ⟨p, o, none⟩ = false := by
  have hb := x.blk
  unfold lfV at hb
  simp [World.frozen?, hb]
/-- whether one is taken -/
theorem Lf.taken (x : Lf w B p g h m A n c old left F s f nl) {i : Nat} (hi : i < n) : ∃ b, left[i]? = some b ∧ w.cell? ⟨g, i, none⟩ = some (.bool (!b)) ∧ w.frozen? ⟨g, i, none⟩ = false := by
  have hl : i < left.length := by have := x.lenL; omega
  obtain ⟨h1, h2, _⟩ := own_bool x.own (k := i) (by simpa using hl)
  exact ⟨left[i], List.getElem?_eq_getElem hl, by simpa using h1, h2⟩
/-- the next one of the same -/
theorem Lf.next (x : Lf w B p g h m A n c old left F s f nl) {i : Nat} (hi : i < old.length) (h1 : old[i].tag.toList.isEmpty = false) (h2 : old[i].key.toList.isEmpty = false) : w.cell? ⟨h, i, none⟩ = some (.int .i64 (nxM old old[i].tag old[i].key (i + 1))) := by
  obtain ⟨A', n', c', hv, e1, _, _, _, e5⟩ := x.nx.slice
  injection hv with h3 h4 h5
  subst h3; subst h4; subst h5
  have hn := x.nxt i hi (Nat.zero_le _) h1 h2
  obtain ⟨hlt, hel⟩ := List.getElem?_eq_some_iff.1 hn
  obtain ⟨b, o, hA, _, hc⟩ := cell_int e5 hlt
  injection hA with hA
  injection hA with e1 e2 _
  subst e1; subst e2
  rw [hel] at hc
  simpa using hc
/-! ### Its steps -/
theorem map_set {left : List Bool} {i : Nat} : (left.map not).set i true = (left.set i false).map not := by
  rw [List.map_set]
  rfl
theorem set_mono {left : List Bool} {i j : Nat} (hj : left[j]? = some false) : (left.set i false)[j]? = some false := by
  rw [List.getElem?_set]
  have hl : j < left.length := (List.getElem?_eq_some_iff.1 hj).1
  by_cases e : i = j
  · subst e
    rw [if_pos rfl, if_pos hl]
  · rw [if_neg e]
    exact hj
theorem NmOk.mono {left' : List Bool} (hn : NmOk old left f) (hm : ∀ j : Nat, left[j]? = some false → left'[j]? = some false) : NmOk old left' f := fun t k h1 h2 h3 h4 => by
  obtain ⟨i, e1, e2⟩ := hn t k h1 h2 h3 h4
  exact ⟨i, e1, fun j h hj hk => hm j (e2 j h hj hk)⟩
/-- the front goes on -/
theorem Lf.step (x : Lf w B p g h m A n c old left F s f nl) (hF : F < n) (hl : left[F]? = some false) : Lf (w.setCell ⟨p, 2, none⟩ (.int .i64 ((F : Int) + 1))) B p g h m A n c old left (F + 1) s f nl := by
  have hb : But (fun k => k = p) w (w.setCell ⟨p, 2, none⟩ (.int .i64 ((F : Int) + 1))) := set_but w p 2 _
  have hk : ∀ i, i < w.heap.size → i ≠ p → (w.setCell ⟨p, 2, none⟩ (.int .i64 ((F : Int) + 1))).heap[i]? = w.heap[i]? := fun i hi hn => hb.block i hi hn
  exact { x with
    blk := heap_set x.blk 2 _
    old_ := x.old_.keep (fun b _ hlt => hk b (by have := x.le; omega) (fun e => by have := x.Bp; omega))
    own := x.own.but hb (fun i hi e => x.pg (by rw [← e]; exact Option.some.inj hi.symm))
    nx := x.nx.but hb (fun i hi e => x.ph (by rw [← e]; exact Option.some.inj hi.symm))
    map := x.map.kept (hk m x.map.lt (fun e => x.pm e.symm))
    front := hF
    gone := fun i hi => by
      by_cases e : i = F
      · subst e; exact hl
      · exact x.gone i (by omega) }
/-- one is taken -/
theorem Lf.take (x : Lf w B p g h m A n c old left F s f nl) {i : Nat} (hi : i < n) : Lf (w.setCell ⟨g, i, none⟩ (.bool true)) B p g h m A n c old (left.set i false) F s f nl := by
  have hb : But (fun k => k = g) w (w.setCell ⟨g, i, none⟩ (.bool true)) := set_but w g i _
  have hk : ∀ j, j < w.heap.size → j ≠ g → (w.setCell ⟨g, i, none⟩ (.bool true)).heap[j]? = w.heap[j]? := fun j hj hn => hb.block j hj hn
  have hl : i < left.length := by have := x.lenL; omega
  obtain ⟨_, _, st⟩ := own_bool x.own (k := i) (by simpa using hl)
  have st := st true
  rw [map_set] at st
  exact { x with
    blk := (hk p x.plt x.pg).trans x.blk
    old_ := x.old_.keep (fun b _ hlt => hk b (by have := x.le; omega) (fun e => by have := x.Bg; omega))
    own := st
    nx := x.nx.but hb (fun j hj e => x.gh (by rw [← e]; exact Option.some.inj hj.symm))
    map := x.map.kept (hk m x.map.lt (fun e => x.gm e.symm))
    lenL := by rw [List.length_set]; exact x.lenL
    gone := fun j hj => set_mono (x.gone j hj)
    nm := x.nm.mono (fun j hj => set_mono hj) }
/-- a name's place goes on -/
theorem Lf.name (x : Lf w B p g h m A n c old left F s f nl) {t k : ByteArray} {a : Int} (ht : t.size ≤ maxLen) (hk : k.size ≤ maxLen) (hs : (f (okL t k)).isSome = true) (i : Nat) (ha : nxM old t k i = a) (hi : ∀ (j : Nat) (h : j < old.length), j < i → isK t k old[j] = true → left[j]? = some false)
    (hm : MapIs Try.prog 30 w' m (s + 1) (if (f (okL t k)).isSome then s else s + 1) (setL f (okL t k) (some (.int .i64 a)))) (hg : w.grownBy w' (some m)) : Lf w' B p g h m A n c old left F s (setL f (okL t k) (some (.int .i64 a))) nl := by
  have hb : But (fun k => k = m) w w' := But.of_grown hg (fun j hj _ => (Option.some.inj hj).symm)
  rw [if_pos hs] at hm
  exact { x with
    blk := (hb.block p x.plt x.pm).trans x.blk
    old_ := x.old_.keep (fun b _ hlt => hb.block b (by have := x.le; omega) (fun e => by have := x.Bm; omega))
    own := x.own.but hb (fun j hj e => x.gm (by rw [← e]; exact Option.some.inj hj))
    nx := x.nx.but hb (fun j hj e => x.hm (by rw [← e]; exact Option.some.inj hj))
    map := hm.tight
    nm := fun t' k' h1 h2 h3 h4 => by
      by_cases e : okL t' k' = okL t k
      · obtain ⟨rfl, rfl⟩ := ok_inj h1 h2 ht hk e
        exact ⟨i, .inr (by rw [(setL_put f _ _).1, ha]), hi⟩
      · rw [(setL_put f _ _).2 _ e]
        exact x.nm t' k' h1 h2 h3 h4 }
end
end Go.Proofs.Ytcdcgdblchchkaa.P16
