/- A document as it lies in memory: its own block, its arena's, its list of identities, each node's block and lists; what a call may have turned. No condition. -/
import Derived.Test.YtihjdmdafiifhaaGreatM4
import Derived.Test.YtihjdmdafiifhaaGreatM6
set_option linter.unusedVariables false
set_option linter.unusedSimpArgs false
set_option linter.unusedVariables false
set_option linter.unusedSimpArgs false
namespace Go.Proofs.YtihjdmdafiifhaaGreat.P5
open Go.RowKit Kd P4

/-! ### Attributes that are read -/
structure AOk (w : World) (s : Sv) (l : List P3.At) : Prop where
  len : l.length = s.n
  cap : s.n ≤ s.c
  cm : s.c ≤ maxLen
  nil : s.A = none → s.c = 0
  holds : kA.Holds w w.heap.size s.A l
  ty : ∀ b o, s.A = some ⟨b, o, none⟩ → l ≠ [] → ∃ cur fr, w.heap[b]? = some (.cells cur 102 fr)
/-- none of these blocks is one of attributes -/
def NoA (w : World) (S : Nat → Prop) : Prop := ∀ k cur fr, S k → w.heap[k]? ≠ some (.cells cur 102 fr)
theorem NoA.none (w : World) : NoA w (fun _ => False) := fun _ _ _ h => h.elim
section
variable {w w' : World} {s : Sv} {l : List P3.At}
theorem AOk.but {S : Nat → Prop} (h : AOk w s l) (hb : But S w w') (hS : NoA w S) : AOk w' s l := by
  have key : ∀ b o, s.A = some ⟨b, o, Option.none⟩ → l ≠ [] → w'.heap[b]? = w.heap[b]? := by
    intro b o hA hl
    obtain ⟨cur, fr, hc⟩ := h.ty b o hA hl
    exact hb.block b (heap_lt hc) (fun hs => hS b cur fr hs hc)
  refine ⟨h.len, h.cap, h.cm, h.nil, ?_, fun b o hA hl => ?_⟩
  · cases l with
    | nil => exact Kind.Holds.nil _ _ _
    | cons a r => exact (h.holds.keep fun b ⟨o, hA⟩ _ => key b o hA (by simp)).more hb.size
  · obtain ⟨cur, fr, hc⟩ := h.ty b o hA hl
    exact ⟨cur, fr, (key b o hA hl).trans hc⟩
theorem AOk.below (h : AOk w s l) (hb : Below w.heap.size w w') : AOk w' s l := h.but (But.of_below hb (fun _ => False)) (NoA.none w)
theorem AOk.nil_ (w : World) : AOk w ⟨Option.none, 0, 0⟩ [] := ⟨rfl, Nat.le_refl _, by simp [maxLen], fun _ => rfl, Kind.Holds.nil _ _ _, fun _ _ h => by cases h⟩
theorem AOk.own {B : Nat} {v : Value} (h : kA.Own w B v l) : ∃ s : Sv, v = s.val ∧ AOk w s l := by
  obtain ⟨A, n, c, rfl, h1, h2, h3, h4, h5⟩ := h.slice
  refine ⟨⟨A, n, c⟩, rfl, h1, h2, h3, h4, h5, fun b o hA hl => ?_⟩
  simp only at hA
  subst hA
  rcases h.form with ⟨hv, rfl⟩ | ⟨g, c', cur, hv, _, _, _, hh, _⟩
  · exact absurd rfl hl
  · injection hv with e1
    injection e1 with e1
    injection e1 with e1
    subst e1
    exact ⟨cur, _, hh⟩
theorem AOk.drewN (h : AOk w s l) (n : Nat) : AOk (w.drewN n) s l := ⟨h.len, h.cap, h.cm, h.nil, h.holds, h.ty⟩
/-- as layer 3 says it -/
theorem p3holds {B : Nat} {A : Option Addr} (h : kA.Holds w B A l) : P3.Holds w B A l := by
  intro k hk
  obtain ⟨b, o, hA, hb, hc⟩ := h.at hk
  exact ⟨b, o, hA, hb, hc 0 _ rfl, hc 1 _ rfl, hc 2 _ rfl⟩
end

/-! ### A document -/
/-- a node: its block, its two lists -/
structure Rw where
  b : Nat
  va : Sv
  vk : Sv
  nd : Nd
def Nd.cells (nd : Nd) (va vk : Sv) : Array Value := #[.int .i64 nd.id, .int .i64 nd.par, .string nd.tag, .string nd.txt, .string nd.key, va.val, vk.val, .int .i64 nd.note]
def slotOf (r : Rw) : Sl Nat := ⟨r.nd.id, r.b⟩
/-- a document: its arena's block, the slots and the identities, room, the last identity, the focus, its nodes -/
structure Dx where
  a : Nat
  v : Value
  vi : Value
  R : Nat
  n : Int
  foc : Int
  rs : List Rw
def Dx.l (x : Dx) : List Nd := x.rs.map (·.nd)
def Dx.d (x : Dx) : D := ⟨x.l, x.n, x.R, x.foc⟩
def foot (p : Nat) (x : Dx) (k : Nat) : Prop := k = p ∨ k = x.a ∨ x.v.ownBlock = some k ∨ x.vi.ownBlock = some k ∨ ∃ r ∈ x.rs, k = r.b ∨ r.vk.val.ownBlock = some k
structure NdAt (w : World) (B : Nat) (r : Rw) : Prop where
  blk : w.heap[r.b]? = some (.cells (r.nd.cells r.va r.vk) 34 (0, 0))
  base : B ≤ r.b
  att : AOk w r.va r.nd.attrs
  kids : kI.Own w B r.vk.val r.nd.kids
structure Dc (w : World) (B p : Nat) (x : Dx) : Prop where
  blk : w.heap[p]? = some (.cells #[.pointer (some ⟨x.a, 0, none⟩), x.vi, .int .i64 x.foc] 90 (0, 0))
  base : B ≤ p
  ar : ArP w B x.a x.R x.n x.v (x.rs.map slotOf)
  ids : kI.Own w B x.vi (idsOf x.l)
  nodes : ∀ r ∈ x.rs, NdAt w B r
  apV : ∀ r ∈ x.rs, Apart x.vi r.vk.val
  pw : x.rs.Pairwise fun r s => r.b ≠ s.b ∧ Apart r.vk.val s.vk.val

theorem NdAt.lt {w : World} {B : Nat} {r : Rw} (h : NdAt w B r) : r.b < w.heap.size := heap_lt h.blk
theorem NdAt.cell {w : World} {B : Nat} {r : Rw} (h : NdAt w B r) (i : Nat) : w.cell? ⟨r.b, i, none⟩ = (r.nd.cells r.va r.vk)[i]? := cell_of_row w r.b i _ _ (0, 0) h.blk
theorem NdAt.frozen {w : World} {B : Nat} {r : Rw} (h : NdAt w B r) (i : Nat) : w.frozen? ⟨r.b, i, none⟩ = false := by
  have := h.blk
  simp [World.frozen?, this]
theorem NdAt.keep {w w' : World} {B : Nat} {r : Rw} (h : NdAt w B r) (hb : w'.heap[r.b]? = w.heap[r.b]?) (hk : ∀ g, r.vk.val.ownBlock = some g → w'.heap[g]? = w.heap[g]?) (ha : AOk w' r.va r.nd.attrs) : NdAt w' B r :=
  ⟨hb.trans h.blk, h.base, ha, h.kids.keep hk⟩

section
variable {w w' : World} {B p : Nat} {x : Dx}
theorem Dc.lt (h : Dc w B p x) {k : Nat} (hk : foot p x k) : k < w.heap.size := by
  rcases hk with rfl | rfl | hk | hk | ⟨r, hr, rfl | hk⟩
  · exact heap_lt h.blk
  · exact h.ar.lt
  · exact (h.ar.own.lt hk).2
  · exact (h.ids.lt hk).2
  · exact (h.nodes r hr).lt
  · exact ((h.nodes r hr).kids.lt hk).2
theorem Dc.ge (h : Dc w B p x) {k : Nat} (hk : foot p x k) : B ≤ k := by
  rcases hk with rfl | rfl | hk | hk | ⟨r, hr, rfl | hk⟩
  · exact h.base
  · exact h.ar.base
  · exact (h.ar.own.lt hk).1
  · exact (h.ids.lt hk).1
  · exact (h.nodes r hr).base
  · exact ((h.nodes r hr).kids.lt hk).1
/-- a block's type, of the document's -/
theorem Dc.ty (h : Dc w B p x) {k : Nat} (hk : foot p x k) : ∃ cur t, w.heap[k]? = some (.cells cur t (0, 0)) ∧ (t = 90 ∨ t = 116 ∨ t = 110 ∨ t = 3 ∨ t = 34) := by
  rcases hk with rfl | rfl | hk | hk | ⟨r, hr, rfl | hk⟩
  · exact ⟨_, _, h.blk, .inl rfl⟩
  · exact ⟨_, _, h.ar.blk, .inr (.inl rfl)⟩
  · obtain ⟨c, hc⟩ := h.ar.own.ty hk
    exact ⟨_, _, hc, .inr (.inr (.inl rfl))⟩
  · obtain ⟨c, hc⟩ := h.ids.ty hk
    exact ⟨_, _, hc, .inr (.inr (.inr (.inl rfl)))⟩
  · exact ⟨_, _, (h.nodes r hr).blk, .inr (.inr (.inr (.inr rfl)))⟩
  · obtain ⟨c, hc⟩ := (h.nodes r hr).kids.ty hk
    exact ⟨_, _, hc, .inr (.inr (.inr (.inl rfl)))⟩
/-- a block of another type is none of the document's -/
theorem Dc.other (h : Dc w B p x) {k : Nat} {cur : Array Value} {t : TypeId} {fr : Nat × Nat} (hk : w.heap[k]? = some (.cells cur t fr)) (h1 : t ≠ 90) (h2 : t ≠ 116) (h3 : t ≠ 110) (h4 : t ≠ 3) (h5 : t ≠ 34) : ¬ foot p x k := by
  intro hf
  obtain ⟨c, t', hc, ht⟩ := h.ty hf
  rw [hk] at hc
  injection hc with hc
  injection hc with _ e
  subst e
  rcases ht with e | e | e | e | e <;> contradiction
theorem Dc.noA (h : Dc w B p x) : NoA w (foot p x) := fun k cur fr hk hc => h.other hc (by decide) (by decide) (by decide) (by decide) (by decide) hk
theorem Dc.but {S : Nat → Prop} (h : Dc w B p x) (hb : But S w w') (hS : ∀ k, foot p x k → ¬ S k) (hA : NoA w S) : Dc w' B p x := by
  have kb : ∀ k, foot p x k → w'.heap[k]? = w.heap[k]? := fun k hk => hb.block k (h.lt hk) (hS k hk)
  refine ⟨(kb p (.inl rfl)).trans h.blk, h.base, h.ar.keep (kb _ (.inr (.inl rfl))) (fun g hg => kb g (.inr (.inr (.inl hg)))), h.ids.keep (fun g hg => kb g (.inr (.inr (.inr (.inl hg))))), fun r hr => ?_, h.apV, h.pw⟩
  exact (h.nodes r hr).keep (kb _ (.inr (.inr (.inr (.inr ⟨r, hr, .inl rfl⟩))))) (fun g hg => kb g (.inr (.inr (.inr (.inr ⟨r, hr, .inr hg⟩))))) ((h.nodes r hr).att.but hb hA)
theorem Dc.below (h : Dc w B p x) (hb : Below w.heap.size w w') : Dc w' B p x := h.but (But.of_below hb (fun _ => False)) (fun _ _ h => h) (NoA.none w)
theorem Dc.base_le {B' : Nat} (h : Dc w B p x) (hB : B' ≤ B) : Dc w B' p x :=
  ⟨h.blk, Nat.le_trans hB h.base, h.ar.base_le hB, h.ids.base_le hB, fun r hr => ⟨(h.nodes r hr).blk, Nat.le_trans hB (h.nodes r hr).base, (h.nodes r hr).att, (h.nodes r hr).kids.base_le hB⟩, h.apV, h.pw⟩
theorem Dc.drewN (h : Dc w B p x) (n : Nat) : Dc (w.drewN n) B p x :=
  ⟨h.blk, h.base, h.ar.drewN n, h.ids, fun r hr => ⟨(h.nodes r hr).blk, (h.nodes r hr).base, (h.nodes r hr).att.drewN n, (h.nodes r hr).kids⟩, h.apV, h.pw⟩
theorem Dc.alloc (h : Dc w B p x) (o : Obj) : Dc (w.alloc o) B p x := h.below ((Below.refl _ _).alloc (Nat.le_refl _) o)
theorem Dc.frozen (h : Dc w B p x) (i : Nat) : w.frozen? ⟨p, i, none⟩ = false := by
  have := h.blk
  simp [World.frozen?, this]
theorem Dc.c0 (h : Dc w B p x) : w.cell? ⟨p, 0, none⟩ = some (.pointer (some ⟨x.a, 0, none⟩)) := cell_of_row w p 0 _ _ (0, 0) h.blk
theorem Dc.c1 (h : Dc w B p x) : w.cell? ⟨p, 1, none⟩ = some x.vi := cell_of_row w p 1 _ _ (0, 0) h.blk
theorem Dc.c2 (h : Dc w B p x) : w.cell? ⟨p, 2, none⟩ = some (.int .i64 x.foc) := cell_of_row w p 2 _ _ (0, 0) h.blk
theorem Dc.asc (h : Dc w B p x) : Asc x.l := by
  have := h.ar.asc.1
  rw [List.pairwise_map] at this
  unfold Asc Dx.l
  rw [List.pairwise_map]
  exact this
theorem l_len (x : Dx) : x.l.length = x.rs.length := by simp [Dx.l]
theorem l_at (x : Dx) {k : Nat} (hk : k < x.rs.length) : x.l[k]'(by rw [l_len]; exact hk) = x.rs[k].nd := by simp [Dx.l]
theorem Dc.has_slot (h : Dc w B p x) (y : Int) : hasA (x.rs.map slotOf) y = hasL x.l y := by
  rw [Bool.eq_iff_iff, hasA_iff h.ar.asc, has_iff]
  constructor
  · rintro ⟨s, hs, e⟩
    obtain ⟨r, hr, rfl⟩ := List.mem_map.1 hs
    exact ⟨r.nd, List.mem_map.2 ⟨r, hr, rfl⟩, e⟩
  · rintro ⟨s, hs, e⟩
    obtain ⟨r, hr, rfl⟩ := List.mem_map.1 hs
    exact ⟨slotOf r, List.mem_map.2 ⟨r, hr, rfl⟩, e⟩
theorem Dc.place (h : Dc w B p x) {y : Int} (hy : hasL x.l y = true) : ∃ k, ∃ hk : k < x.rs.length, x.rs[k].nd.id = y ∧ find x.l y = some x.rs[k].nd := by
  obtain ⟨z, hz, rfl⟩ := has_iff.1 hy
  obtain ⟨r, hr, rfl⟩ := List.mem_map.1 hz
  obtain ⟨k, hk, rfl⟩ := List.mem_iff_getElem.1 hr
  exact ⟨k, hk, rfl, h.asc.find hz⟩
theorem Dc.nd (h : Dc w B p x) {k : Nat} (hk : k < x.rs.length) : NdAt w B x.rs[k] := h.nodes _ (List.getElem_mem hk)
theorem Dc.b_ne (h : Dc w B p x) {i j : Nat} (hi : i < x.rs.length) (hj : j < x.rs.length) (hij : i ≠ j) : x.rs[i].b ≠ x.rs[j].b ∧ Apart x.rs[i].vk.val x.rs[j].vk.val := by
  have := List.pairwise_iff_getElem.1 h.pw
  rcases Nat.lt_or_gt_of_ne hij with hl | hl
  · exact this i j hi hj hl
  · obtain ⟨a, b⟩ := this j i hj hi hl
    exact ⟨Ne.symm a, b.symm⟩

/-! ### What a call has done to a document -/
structure Did (w : World) (B p : Nat) (x x' : Dx) (w' : World) : Prop where
  dc : Dc w' B p x'
  but : But (foot p x) w w'
  ft : ∀ k, foot p x' k → foot p x k ∨ w.heap.size ≤ k
theorem Did.refl (h : Dc w B p x) : Did w B p x x w := ⟨h, But.refl _ _, fun _ h => .inl h⟩
theorem Did.trans {w2 : World} {x1 x2 : Dx} (h : Did w B p x x1 w') (k : Did w' B p x1 x2 w2) : Did w B p x x2 w2 := by
  have hs := h.but.size
  refine ⟨k.dc, h.but.trans k.but (fun i hi hf => ?_), fun i hi => ?_⟩
  · rcases h.ft i hf with e | e
    · exact e
    · omega
  · rcases k.ft i hi with e | e
    · exact h.ft i e
    · exact .inr (by omega)
theorem Did.below_ (h : Dc w B p x) (hb : Below w.heap.size w w') : Did w B p x x w' := ⟨h.below hb, But.of_below hb _, fun _ h => .inl h⟩
theorem Did.below {x' : Dx} {w2 : World} (h : Did w B p x x' w') (hb : Below w'.heap.size w' w2) : Did w B p x x' w2 := h.trans (Did.below_ h.dc hb)
theorem Did.to_below {x' : Dx} (h : Dc w B p x) (k : Did w B p x x' w') : Below B w w' := k.but.to_below (fun _ _ hi => h.ge hi) (by have := h.base; have := h.lt (.inl rfl : foot p x p); omega)
theorem mem_set_ {α : Type} {l : List α} {k : Nat} {r s : α} (h : s ∈ l.set k r) : s = r ∨ ∃ j, ∃ hj : j < l.length, k ≠ j ∧ s = l[j] := by
  obtain ⟨j, hj, rfl⟩ := List.mem_iff_getElem.1 h
  rw [List.getElem_set]
  split
  · exact .inl rfl
  · rename_i e
    exact .inr ⟨j, by simpa using hj, e, rfl⟩
/-- one node is another, in the same block -/
def Dx.put (x : Dx) (k : Nat) (r : Rw) : Dx := { x with rs := x.rs.set k r }
theorem Dc.node (h : Dc w B p x) {k : Nat} (hk : k < x.rs.length) {r : Rw} (hb : r.b = x.rs[k].b) (hid : r.nd.id = x.rs[k].nd.id)
    (hw : But (fun g => g = x.rs[k].b ∨ x.rs[k].vk.val.ownBlock = some g) w w') (hn : NdAt w' B r) (hv : ∀ g, r.vk.val.ownBlock = some g → x.rs[k].vk.val.ownBlock = some g ∨ w.heap.size ≤ g) : Did w B p x (x.put k r) w' := by
  have hS : ∀ g, (g = x.rs[k].b ∨ x.rs[k].vk.val.ownBlock = some g) → foot p x g := fun g hg => .inr (.inr (.inr (.inr ⟨_, List.getElem_mem hk, hg⟩)))
  have hbut : But (foot p x) w w' := hw.mono fun g _ hg => hS g hg
  have hnA : NoA w (fun g => g = x.rs[k].b ∨ x.rs[k].vk.val.ownBlock = some g) := fun g c f hg => h.noA g c f (hS g hg)
  have hkd := h.nd hk
  have blkN := hkd.blk
  have nb : ∀ {g : Nat} {c : Array Value} {t : TypeId}, w.heap[g]? = some (.cells c t (0, 0)) → t ≠ 34 → t ≠ 3 → w'.heap[g]? = w.heap[g]? := by
    intro g c t hg h1 h2
    refine hw.block g (heap_lt hg) ?_
    rintro (rfl | e)
    · exact heap_ne hg blkN h1 rfl
    · obtain ⟨d, hd⟩ := hkd.kids.ty e
      exact heap_ne hg hd h2 rfl
  have hslots : (x.rs.set k r).map slotOf = x.rs.map slotOf := by
    apply List.ext_getElem
    · simp
    · intro j h1 h2
      simp only [List.getElem_map, List.getElem_set]
      split
      · rename_i e; subst e; simp [slotOf, hb, hid]
      · rfl
  have hids : idsOf ((x.rs.set k r).map (·.nd)) = idsOf x.l := by
    have := congrArg (List.map (·.id)) hslots
    simpa [idsOf, Dx.l, slotOf, List.map_map, Function.comp_def] using this
  have kN : ∀ {g : Nat} {c : Array Value}, w.heap[g]? = some (.cells c 3 (0, 0)) → x.rs[k].vk.val.ownBlock ≠ some g → w'.heap[g]? = w.heap[g]? := by
    intro g c hg hne
    refine hw.block g (heap_lt hg) ?_
    rintro (rfl | e)
    · exact heap_ne hg blkN (by decide) rfl
    · exact hne e
  refine ⟨⟨(nb h.blk (by decide) (by decide)).trans h.blk, h.base, ?_, ?_, ?_, ?_, ?_⟩, hbut, ?_⟩
  · show ArP w' B x.a x.R x.n x.v ((x.rs.set k r).map slotOf)
    rw [hslots]
    refine h.ar.keep (nb h.ar.blk (by decide) (by decide)) (fun g hg => ?_)
    obtain ⟨c, hc⟩ := h.ar.own.ty hg
    exact nb hc (by decide) (by decide)
  · show kI.Own w' B x.vi (idsOf ((x.rs.set k r).map (·.nd)))
    rw [hids]
    refine h.ids.keep (fun g hg => ?_)
    obtain ⟨c, hc⟩ := h.ids.ty hg
    exact kN hc (h.apV _ (List.getElem_mem hk) g hg)
  · intro s hs
    rcases mem_set_ (show s ∈ x.rs.set k r from hs) with rfl | ⟨j, hj', hne, rfl⟩
    · exact hn
    · obtain ⟨hbj, hkj⟩ := h.b_ne hk hj' hne
      have hnj := h.nd hj'
      refine hnj.keep (hw.block _ hnj.lt ?_) (fun g hg => ?_) (hnj.att.but hw hnA)
      · rintro (e | e)
        · exact hbj e.symm
        · obtain ⟨d, hd⟩ := hkd.kids.ty e
          exact heap_ne hnj.blk hd (by decide) rfl
      · obtain ⟨c, hc⟩ := hnj.kids.ty hg
        exact kN hc (fun e => hkj g e hg)
  · intro s hs
    show Apart x.vi s.vk.val
    rcases mem_set_ (show s ∈ x.rs.set k r from hs) with rfl | ⟨j, hj', hne, rfl⟩
    · intro g hg e
      rcases hv g e with e2 | e2
      · exact h.apV _ (List.getElem_mem hk) g hg e2
      · have := (h.ids.lt hg).2; omega
    · exact h.apV _ (List.getElem_mem hj')
  · show (x.rs.set k r).Pairwise _
    refine List.pairwise_iff_getElem.2 fun i j hi hj hij => ?_
    have hi' : i < x.rs.length := by simpa using hi
    have hj' : j < x.rs.length := by simpa using hj
    have ap : ∀ m (hm : m < x.rs.length), m ≠ k → r.b ≠ x.rs[m].b ∧ Apart r.vk.val x.rs[m].vk.val := by
      intro m hm hmk
      obtain ⟨h1, h2⟩ := h.b_ne hk hm (Ne.symm hmk)
      refine ⟨by rw [hb]; exact h1, fun g hg e => ?_⟩
      rcases hv g hg with e2 | e2
      · exact h2 g e2 e
      · have := ((h.nd hm).kids.lt e).2; omega
    rw [List.getElem_set, List.getElem_set]
    by_cases e1 : k = i
    · rw [if_pos e1, if_neg (by omega)]
      exact ap j hj' (by omega)
    · rw [if_neg e1]
      by_cases e2 : k = j
      · rw [if_pos e2]
        obtain ⟨h1, h2⟩ := ap i hi' (by omega)
        exact ⟨Ne.symm h1, h2.symm⟩
      · rw [if_neg e2]
        exact h.b_ne hi' hj' (by omega)
  · intro g hg
    rcases hg with e | e | e | e | ⟨s, hs, e⟩
    · exact .inl (.inl e)
    · exact .inl (.inr (.inl e))
    · exact .inl (.inr (.inr (.inl e)))
    · exact .inl (.inr (.inr (.inr (.inl e))))
    · have hs' : s ∈ x.rs.set k r := hs
      rcases mem_set_ hs' with rfl | ⟨j, hj', _, rfl⟩
      · rcases e with e | e
        · exact .inl (.inr (.inr (.inr (.inr ⟨_, List.getElem_mem hk, .inl (by rw [e, hb])⟩))))
        · rcases hv g e with e2 | e2
          · exact .inl (.inr (.inr (.inr (.inr ⟨_, List.getElem_mem hk, .inr e2⟩))))
          · exact .inr e2
      · exact .inl (.inr (.inr (.inr (.inr ⟨_, List.getElem_mem hj', e⟩))))
theorem put_l (h : Dc w B p x) {k : Nat} (hk : k < x.rs.length) {r : Rw} {f : Nd → Nd} (hf : r.nd = f x.rs[k].nd) : (x.put k r).l = upd x.l x.rs[k].nd.id f := by
  have := h.asc.set_upd (k := k) (by rw [l_len]; exact hk) f
  rw [l_at x hk] at this
  rw [← this]
  show (x.rs.set k r).map (·.nd) = (x.rs.map (·.nd)).set k _
  rw [List.map_set, hf]
/-- one cell of a node is set anew: its parent, its text, its note, its attributes -/
theorem Dc.cell_ (h : Dc w B p x) {k : Nat} (hk : k < x.rs.length) {r : Rw} (hb : r.b = x.rs[k].b) (hid : r.nd.id = x.rs[k].nd.id) (hvk : r.vk = x.rs[k].vk) (hkd : r.nd.kids = x.rs[k].nd.kids) (ha : AOk w r.va r.nd.attrs) {i : Nat} {u : Value}
    (hc : r.nd.cells r.va r.vk = (x.rs[k].nd.cells x.rs[k].va x.rs[k].vk).setIfInBounds i u) : Did w B p x (x.put k r) (w.setCell ⟨x.rs[k].b, i, none⟩ u) := by
  have hn := h.nd hk
  have hbut : But (fun g => g = x.rs[k].b ∨ x.rs[k].vk.val.ownBlock = some g) w (w.setCell ⟨x.rs[k].b, i, none⟩ u) := But.setCell (But.refl _ _) (fun _ => .inl rfl) u
  refine h.node hk hb hid hbut ⟨?_, by rw [hb]; exact hn.base, ha.but hbut (fun g c f hg => h.noA g c f (.inr (.inr (.inr (.inr ⟨_, List.getElem_mem hk, hg⟩))))), ?_⟩ (fun g hg => .inl (by rw [← hvk]; exact hg))
  · rw [hb, hc]
    exact heap_set hn.blk i u
  · rw [hvk, hkd]
    refine hn.kids.keep (fun g hg => Below.heap_setCell _ _ _ _ ?_)
    rintro rfl
    obtain ⟨d, hd⟩ := hn.kids.ty hg
    exact heap_ne hd hn.blk (by decide) rfl
/-- a node's children are others, made of these ones in place, or anew; then they are stored -/
theorem Dc.kids_ (h : Dc w B p x) {k : Nat} (hk : k < x.rs.length) {r : Rw} (hb : r.b = x.rs[k].b) (hva : r.va = x.rs[k].va) {f : List Int → List Int} (hnd : r.nd = withKids f x.rs[k].nd) (hw : But (fun g => x.rs[k].vk.val.ownBlock = some g) w w') (hown : kI.Own w' B r.vk.val r.nd.kids)
    (hv : ∀ g, r.vk.val.ownBlock = some g → x.rs[k].vk.val.ownBlock = some g ∨ w.heap.size ≤ g) : Did w B p x (x.put k r) (w'.setCell ⟨x.rs[k].b, 6, none⟩ r.vk.val) := by
  have hn := h.nd hk
  have hne : x.rs[k].vk.val.ownBlock ≠ some x.rs[k].b := by
    intro e
    obtain ⟨d, hd⟩ := hn.kids.ty e
    exact heap_ne hd hn.blk (by decide) rfl
  have hblk : w'.heap[x.rs[k].b]? = some (.cells (x.rs[k].nd.cells x.rs[k].va x.rs[k].vk) 34 (0, 0)) := (hw.block _ hn.lt hne).trans hn.blk
  have hbut : But (fun g => g = x.rs[k].b ∨ x.rs[k].vk.val.ownBlock = some g) w (w'.setCell ⟨x.rs[k].b, 6, none⟩ r.vk.val) := But.setCell (hw.mono fun _ _ hg => .inr hg) (fun _ => .inl rfl) _
  refine h.node hk hb (by rw [hnd]; rfl) hbut ⟨?_, by rw [hb]; exact hn.base, ?_, ?_⟩ hv
  · rw [hb, hva, hnd]
    exact heap_set hblk 6 _
  · have : r.nd.attrs = x.rs[k].nd.attrs := by rw [hnd]; rfl
    rw [hva, this]
    exact hn.att.but hbut (fun g c f hg => h.noA g c f (.inr (.inr (.inr (.inr ⟨_, List.getElem_mem hk, hg⟩)))))
  · refine hown.keep (fun g hg => Below.heap_setCell _ _ _ _ ?_)
    rintro rfl
    obtain ⟨d, hd⟩ := hown.ty hg
    exact heap_ne hd hblk (by decide) rfl
end
end Go.Proofs.YtihjdmdafiifhaaGreat.P5
