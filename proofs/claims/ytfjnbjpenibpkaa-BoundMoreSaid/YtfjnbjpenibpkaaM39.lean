/- What the program's Check keeps, step by step: a name is told, a place begins, a key is put, a place is skipped, one more place, one less. No condition but those stated. -/
import Derived.Test.YtfjnbjpenibpkaaM20
import Derived.Test.YtfjnbjpenibpkaaM38
set_option linter.unusedVariables false
set_option linter.unusedSimpArgs false
set_option linter.unusedVariables false
set_option linter.unusedSimpArgs false
namespace Go.Proofs.Ytfjnbjpenibpkaa.P13
open Go.RowKit Kd P4 P5 P11 P12 Mv

structure Fr (w : World) (B p k g c d : Nat) (A : Option Addr) (n c' : Nat) (tl : Bool) (ps : List Pl) (td : List ByteArray) (P : List (List In)) : Prop where
  base : B ≤ p
  len : P.length = d + 1
  d8 : d ≤ 8
  blk : w.heap[p]? = some (.cells #[.slice (some ⟨g, 0, none⟩) (d + 1) c, .bool tl, .slice A n c'] 55 (0, 0))
  own : kPl.Own w B (.slice (some ⟨g, 0, none⟩) (d + 1) c) ps
  told : kStr.Own w B (.slice A n c') td
  pl : ps.length = d + 1
  nd : (ps.map Pl.m).Nodup
  at_ : ∀ i (h : i < ps.length) (h2 : i < P.length), B ≤ ps[i].m ∧ ps[i].sk = skB P[i] ∧ ∃ s, MapIs Try.prog 9 w ps[i].m k s (keysF P[i])
  tlen : td.length = n
  nk : n ≤ k
theorem FrIs.fr {w : World} {B p k : Nat} {P : List (List In)} {nm : Option (List (List UInt8))} (h : FrIs w B p k P nm) :
    ∃ g c d A n c' ps td, Fr w B p k g c d A n c' nm.isSome ps td P ∧ td.map (·.toList) = nm.getD [] := by
  obtain ⟨g, c, d, ps, A, n, c', td, h1, h2, h3, h4, h5, h6, h7, h8, h9, h10, h11, h12⟩ := h
  exact ⟨g, c, d, A, n, c', ps, td, ⟨h1, h2, h3, h4, h5, h6, h7, h8, h9, h11, h12⟩, h10⟩
section
variable {w w' : World} {B p k g c d : Nat} {A : Option Addr} {n c' : Nat} {tl : Bool} {ps : List Pl} {td : List ByteArray} {P : List (List In)}
theorem Fr.is {nm : Option (List (List UInt8))} (h : Fr w B p k g c d A n c' tl ps td P) (ht : tl = nm.isSome) (hn : td.map (·.toList) = nm.getD []) : FrIs w B p k P nm := by
  subst ht
  exact ⟨g, c, d, ps, A, n, c', td, h.base, h.len, h.d8, h.blk, h.own, h.told, h.pl, h.nd, h.at_, hn, h.tlen, h.nk⟩
theorem Fr.lt (h : Fr w B p k g c d A n c' tl ps td P) : p < w.heap.size := heap_lt h.blk
theorem Fr.size (h : Fr w B p k g c d A n c' tl ps td P) : B ≤ w.heap.size := by have := h.base; have := h.lt; omega
theorem Fr.c0 (h : Fr w B p k g c d A n c' tl ps td P) : w.cell? ⟨p, 0, none⟩ = some (.slice (some ⟨g, 0, none⟩) (d + 1) c) := cell_of_row w p 0 _ _ (0, 0) h.blk
theorem Fr.c1 (h : Fr w B p k g c d A n c' tl ps td P) : w.cell? ⟨p, 1, none⟩ = some (.bool tl) := cell_of_row w p 1 _ _ (0, 0) h.blk
theorem Fr.c2 (h : Fr w B p k g c d A n c' tl ps td P) : w.cell? ⟨p, 2, none⟩ = some (.slice A n c') := cell_of_row w p 2 _ _ (0, 0) h.blk
theorem Fr.frozen (h : Fr w B p k g c d A n c' tl ps td P) (i : Nat) : w.frozen? ⟨p, i, none⟩ = false := by simp [World.frozen?, h.blk]
theorem Fr.below (h : Fr w B p k g c d A n c' tl ps td P) (b : Below w.heap.size w w') : Fr w' B p k g c d A n c' tl ps td P :=
  ⟨h.base, h.len, h.d8, (b.block p h.lt).trans h.blk, h.own.below b (Nat.le_refl _), h.told.below b (Nat.le_refl _), h.pl, h.nd, fun i h1 h2 => by
    obtain ⟨e1, e2, s, e3⟩ := h.at_ i h1 h2
    exact ⟨e1, e2, s, e3.below b e3.lt⟩, h.tlen, h.nk⟩
theorem Fr.mono (h : Fr w B p k g c d A n c' tl ps td P) {k' : Nat} (hk : k ≤ k') : Fr w B p k' g c d A n c' tl ps td P :=
  ⟨h.base, h.len, h.d8, h.blk, h.own, h.told, h.pl, h.nd, fun i h1 h2 => by
    obtain ⟨e1, e2, s, e3⟩ := h.at_ i h1 h2
    exact ⟨e1, e2, s, e3.mono hk⟩, h.tlen, by have := h.nk; omega⟩
/-- the front's own block is none of its others -/
theorem Fr.ne_own (h : Fr w B p k g c d A n c' tl ps td P) : g ≠ p := by
  rintro rfl
  obtain ⟨x, hx⟩ := h.own.ty (g := g) rfl
  exact heap_ne hx h.blk (by decide) rfl
theorem Fr.ne_told (h : Fr w B p k g c d A n c' tl ps td P) {j : Nat} (hj : (Value.slice A n c').ownBlock = some j) : j ≠ p := by
  rintro rfl
  obtain ⟨x, hx⟩ := h.told.ty hj
  exact heap_ne hx h.blk (by decide) rfl
theorem Fr.ne_map (h : Fr w B p k g c d A n c' tl ps td P) {i : Nat} (h1 : i < ps.length) : ps[i].m ≠ p ∧ ps[i].m ≠ g ∧ ∀ j, (Value.slice A n c').ownBlock = some j → ps[i].m ≠ j := by
  obtain ⟨_, _, s, M⟩ := h.at_ i h1 (by have := h.len; have := h.pl; omega)
  obtain ⟨es, cl, hb⟩ := M.blk
  refine ⟨map_ne hb h.blk, ?_, fun j hj => ?_⟩
  · obtain ⟨x, hx⟩ := h.own.ty (g := g) rfl
    exact map_ne hb hx
  · obtain ⟨x, hx⟩ := h.told.ty hj
    exact map_ne hb hx
/-- one of the front's own cells is stored -/
theorem Fr.maps_kept (h : Fr w B p k g c d A n c' tl ps td P) (hb : ∀ i (h : i < ps.length), w'.heap[ps[i].m]? = w.heap[ps[i].m]?) :
    ∀ i (h : i < ps.length) (h2 : i < P.length), B ≤ ps[i].m ∧ ps[i].sk = skB P[i] ∧ ∃ s, MapIs Try.prog 9 w' ps[i].m k s (keysF P[i]) := fun i h1 h2 => by
  obtain ⟨e1, e2, s, e3⟩ := h.at_ i h1 h2
  exact ⟨e1, e2, s, e3.kept (hb i h1)⟩
/-- a name is told -/
theorem Fr.tell {a : ByteArray} {A2 : Option Addr} {n2 c2 : Nat} (h : Fr w B p k g c d A n c' tl ps td P) (hg : w.grownBy w' (Value.slice A n c').ownBlock) (ho : kStr.Own w' B (.slice A2 n2 c2) (td ++ [a])) (hn2 : n2 = n + 1) :
    Fr (w'.setCell ⟨p, 2, none⟩ (.slice A2 n2 c2)) B p (k + 1) g c d A2 n2 c2 tl ps (td ++ [a]) P ∧ Below B w (w'.setCell ⟨p, 2, none⟩ (.slice A2 n2 c2)) := by
  have b1 : But (fun j => (Value.slice A n c').ownBlock = some j) w w' := But.of_grown hg (fun i hi _ => hi)
  have hp : w'.heap[p]? = _ := (b1.block p h.lt (fun e => h.ne_told e rfl)).trans h.blk
  have b2 : But (fun j => (Value.slice A n c').ownBlock = some j ∨ j = p) w (w'.setCell ⟨p, 2, none⟩ (.slice A2 n2 c2)) := But.setCell (b1.mono fun _ _ e => .inl e) (fun _ => .inr rfl) _
  have hgt : (Value.slice A n c').ownBlock ≠ some g := fun e => by
    obtain ⟨x, hx⟩ := h.own.ty (g := g) rfl
    obtain ⟨y, hy⟩ := h.told.ty e
    exact heap_ne hx hy (by decide) rfl
  have hs := h.size
  refine ⟨(Fr.mk h.base h.len h.d8 (heap_set hp 2 _) ?_ ?_ h.pl h.nd ?_ (by rw [List.length_append, h.tlen, hn2]; rfl) (by have := h.nk; omega)), ?_⟩
  · exact h.own.but b2 fun j hj e => by
      have : j = g := (Option.some.inj hj).symm
      subst this
      rcases e with e | e
      · exact hgt e
      · exact h.ne_own e
  · exact ho.keep fun j hj => Below.heap_setCell _ _ _ _ (by
      rintro rfl
      obtain ⟨x, hx⟩ := ho.ty hj
      exact heap_ne hx hp (by decide) rfl)
  · have := (h.mono (Nat.le_succ k)).maps_kept (w' := w'.setCell ⟨p, 2, none⟩ (.slice A2 n2 c2)) (fun i h1 => by
      obtain ⟨_, _, s, M⟩ := h.at_ i h1 (by have := h.len; have := h.pl; omega)
      refine b2.block _ M.lt ?_
      rintro (e | e)
      · exact (h.ne_map h1).2.2 _ e rfl
      · exact (h.ne_map h1).1 e)
    exact this
  · refine b2.to_below (fun i hi e => ?_) hs
    rcases e with e | rfl
    · exact (h.told.lt e).1
    · exact h.base
/-- whether attributes may be told is stored; none were -/
theorem Fr.turn (h : Fr w B p k g c d A n c' tl ps td P) (t2 : Bool) :
    Fr ((w.setCell ⟨p, 1, none⟩ (.bool t2)).setCell ⟨p, 2, none⟩ (.slice none 0 0)) B p k g c d none 0 0 t2 ps [] P ∧ Below B w ((w.setCell ⟨p, 1, none⟩ (.bool t2)).setCell ⟨p, 2, none⟩ (.slice none 0 0)) := by
  have b2 : But (fun j => j = p) w ((w.setCell ⟨p, 1, none⟩ (.bool t2)).setCell ⟨p, 2, none⟩ (.slice none 0 0)) := But.setCell (p := ⟨p, 2, none⟩) (But.setCell (p := ⟨p, 1, none⟩) (But.refl (fun j => j = p) w) (fun _ => rfl) _) (fun _ => rfl) _
  refine ⟨(Fr.mk h.base h.len h.d8 (heap_set (heap_set h.blk 1 _) 2 _) ?_ (Kind.Own.nil _ _ _) h.pl h.nd ?_ rfl (Nat.zero_le _)), b2.to_below (fun i _ e => by subst e; exact h.base) h.size⟩
  · exact h.own.but b2 fun j hj e => by
      have : j = g := (Option.some.inj hj).symm
      subst this
      exact h.ne_own e
  · exact h.maps_kept (fun i h1 => by
      obtain ⟨_, _, s, M⟩ := h.at_ i h1 (by have := h.len; have := h.pl; omega)
      exact b2.block _ M.lt (h.ne_map h1).1)
theorem nodup_at {l : List Nat} (h : l.Nodup) {i j : Nat} (hi : i < l.length) (hj : j < l.length) (e : l[i] = l[j]) : i = j := by
  rcases Nat.lt_trichotomy i j with h1 | h1 | h1
  · exact absurd e (List.pairwise_iff_getElem.1 h i j hi hj h1)
  · exact h1
  · exact absurd e.symm (List.pairwise_iff_getElem.1 h j i hj hi h1)
theorem set_last {α : Type} {l : List α} {d : Nat} (h : l.length = d + 1) (y : α) : l.dropLast ++ [y] = l.set d y := by
  refine List.ext_getElem (by simp [h]) fun i h1 h2 => ?_
  rw [List.getElem_set]
  have h3 : i < d + 1 := by simpa [h] using h2
  by_cases e : d = i
  · subst e
    rw [if_pos rfl, List.getElem_append_right (by simp [h])]
    simp [h]
  · rw [if_neg e, List.getElem_append_left (by simp [h]; omega), List.getElem_dropLast]
/-- the last place with one more instruction -/
def lastX (P : List (List In)) (x : In) : List (List In) := P.dropLast ++ [lastP P ++ [x]]
theorem lastX_len (h : P.length = d + 1) (x : In) : (lastX P x).length = d + 1 := by simp [lastX, h]
theorem lastX_at (h : P.length = d + 1) (x : In) {i : Nat} (h2 : i < (lastX P x).length) : (lastX P x)[i] = if h3 : d = i then P[i]'(by omega) ++ [x] else P[i]'(by rw [lastX_len h] at h2; omega) := by
  have e : lastX P x = P.set d (lastP P ++ [x]) := by rw [lastX]; exact set_last h _
  rw [List.getElem_of_eq e, List.getElem_set]
  by_cases hd : d = i
  · subst hd
    rw [if_pos rfl, dif_pos rfl, lastP_at h]
  · rw [if_neg hd, dif_neg hd]
theorem skB_snoc {L : List In} {x : In} (h : x.op ≠ 7) : skB (L ++ [x]) = skB L := by
  unfold skB
  rw [List.any_append, List.any_cons, List.any_nil, Bool.or_false, decide_eq_false h, Bool.or_false]
theorem skB_seven {L : List In} {x : In} (h : x.op = 7) : skB (L ++ [x]) = true := by
  unfold skB
  rw [List.any_append, List.any_cons, decide_eq_true h]
  simp
/-- an instruction of no key -/
theorem Fr.put_none {x : In} (h : Fr w B p k g c d A n c' tl ps td P) (hk : keyedB x = false) (h7 : x.op ≠ 7) : Fr w B p k g c d A n c' tl ps td (lastX P x) := by
  refine Fr.mk h.base (lastX_len h.len x) h.d8 h.blk h.own h.told h.pl h.nd (fun i h1 h2 => ?_) h.tlen h.nk
  obtain ⟨e1, e2, s, e3⟩ := h.at_ i h1 (by rw [lastX_len h.len] at h2; have := h.len; omega)
  rw [lastX_at h.len x h2]
  split
  · rw [skB_snoc h7, keysF_not hk]
    exact ⟨e1, e2, s, e3⟩
  · exact ⟨e1, e2, s, e3⟩
/-- the place's own map -/
theorem Fr.map (h : Fr w B p k g c d A n c' tl ps td P) : ∃ s, MapIs Try.prog 9 w (ps[d]'(by have := h.pl; omega)).m k s (keysF (lastP P)) := by
  obtain ⟨_, _, s, M⟩ := h.at_ d (by have := h.pl; omega) (by have := h.len; omega)
  rw [lastP_at h.len]
  exact ⟨s, M⟩
/-- an instruction of a key: it is put -/
theorem Fr.put_key {x : In} {s' : Nat} (h : Fr w B p k g c d A n c' tl ps td P) (h7 : x.op ≠ 7) (hg : w.grownBy w' (some (ps[d]'(by have := h.pl; omega)).m)) (hm : MapIs Try.prog 9 w' (ps[d]'(by have := h.pl; omega)).m (k + 1) s' (keysF (lastP P ++ [x]))) :
    Fr w' B p (k + 1) g c d A n c' tl ps td (lastX P x) ∧ Below B w w' := by
  have hd : d < ps.length := by have := h.pl; omega
  have b1 : But (fun j => j = ps[d].m) w w' := But.of_grown hg (fun i hi _ => (Option.some.inj hi).symm)
  obtain ⟨hB, _, _, _⟩ := h.at_ d hd (by have := h.len; omega)
  refine ⟨Fr.mk h.base (lastX_len h.len x) h.d8 ((b1.block p h.lt (fun e => (h.ne_map hd).1 e.symm)).trans h.blk) (h.own.but b1 fun j hj e => ?_) (h.told.but b1 fun j hj e => (h.ne_map hd).2.2 j hj e.symm) h.pl h.nd (fun i h1 h2 => ?_) h.tlen (by have := h.nk; omega), b1.to_below (fun i _ e => by subst e; exact hB) h.size⟩
  · have : j = g := (Option.some.inj hj).symm
    subst this
    exact (h.ne_map hd).2.1 e.symm
  · obtain ⟨e1, e2, s, e3⟩ := h.at_ i h1 (by rw [lastX_len h.len] at h2; have := h.len; omega)
    rw [lastX_at h.len x h2]
    split
    · rename_i e
      subst e
      rw [lastP_at h.len] at hm
      rw [skB_snoc h7]
      exact ⟨e1, e2, s', hm⟩
    · rename_i e
      refine ⟨e1, e2, s, (e3.mono (Nat.le_succ k)).kept (b1.block _ e3.lt ?_)⟩
      intro e5
      have hnd := h.nd
      refine e ?_
      have e6 : (ps.map Pl.m)[i]'(by simpa using h1) = (ps.map Pl.m)[d]'(by simpa using hd) := by simpa using e5
      exact (nodup_at hnd (by simpa using h1) (by simpa using hd) e6).symm
theorem pl_cells_set : ∀ (l : List Pl) (i : Nat) (h : i < l.length), kPl.cells (l.set i ⟨l[i].m, true⟩) = (kPl.cells l).set (i * 2 + 1) (.bool true)
  | [], i, h => by simp at h
  | a :: l, 0, _ => by simp [Kind.cells, kPl]
  | a :: l, i + 1, h => by
    have ih := pl_cells_set l i (by simpa using h)
    have e : ∀ (a : Pl) (l : List Pl), kPl.cells (a :: l) = .map (some a.m) :: .bool a.sk :: kPl.cells l := fun a l => rfl
    rw [List.set_cons_succ, e, e, show (i + 1) * 2 + 1 = (i * 2 + 1) + 1 + 1 by omega, List.set_cons_succ, List.set_cons_succ, ← ih]
    rfl
/-- a place is skipped -/
theorem Fr.skip {x : In} (h : Fr w B p k g c d A n c' tl ps td P) (h7 : x.op = 7) :
    Fr (w.setCell ⟨g, d * 2 + 1, none⟩ (.bool true)) B p (k + 1) g c d A n c' tl (ps.set d ⟨(ps[d]'(by have := h.pl; omega)).m, true⟩) td (lastX P x) ∧ Below B w (w.setCell ⟨g, d * 2 + 1, none⟩ (.bool true)) := by
  have hd : d < ps.length := by have := h.pl; omega
  have b1 : But (fun j => j = g) w (w.setCell ⟨g, d * 2 + 1, none⟩ (.bool true)) := But.setCell (p := ⟨g, d * 2 + 1, none⟩) (But.refl (fun j => j = g) w) (fun _ => rfl) _
  have hk : keyedB x = false := by simp [keyedB, makesO, h7]
  have hgB : B ≤ g := (h.own.lt (g := g) rfl).1
  have em : (ps.set d ⟨ps[d].m, true⟩).map Pl.m = ps.map Pl.m := by
    refine List.ext_getElem (by simp) fun i h1 h2 => ?_
    rw [List.getElem_map, List.getElem_map, List.getElem_set]
    split
    · rename_i e; subst e; rfl
    · rfl
  refine ⟨Fr.mk h.base (lastX_len h.len x) h.d8 ((b1.block p h.lt (fun e => h.ne_own e.symm)).trans h.blk) ?_ (h.told.but b1 fun j hj e => ?_) (by rw [List.length_set]; exact h.pl) (by rw [em]; exact h.nd) (fun i h1 h2 => ?_) h.tlen (by have := h.nk; omega), b1.to_below (fun i _ e => by subst e; exact hgB) h.size⟩
  · exact h.own.set_ h.pl (by rw [List.length_set]) (pl_cells_set ps d hd)
  · subst e
    obtain ⟨x, hx⟩ := h.own.ty (g := j) rfl
    obtain ⟨y, hy⟩ := h.told.ty hj
    exact heap_ne hx hy (by decide) rfl
  · have h1' : i < ps.length := by rw [List.length_set] at h1; exact h1
    obtain ⟨e1, e2, s, e3⟩ := h.at_ i h1' (by rw [lastX_len h.len] at h2; have := h.len; omega)
    have e4 : MapIs Try.prog 9 (w.setCell ⟨g, d * 2 + 1, none⟩ (.bool true)) ps[i].m (k + 1) s (keysF (P[i]'(by rw [lastX_len h.len] at h2; have := h.len; omega))) := (e3.mono (Nat.le_succ k)).kept (b1.block _ e3.lt (h.ne_map h1').2.1)
    rw [lastX_at h.len x h2]
    by_cases e : d = i
    · subst e
      rw [dif_pos rfl, skB_seven h7, keysF_not hk, List.getElem_set_self]
      exact ⟨e1, rfl, s, e4⟩
    · rw [dif_neg e, List.getElem_set_ne e]
      exact ⟨e1, e2, s, e4⟩
/-- one more place -/
theorem Fr.push {g2 c2 n2 m : Nat} (h : Fr w B p k g c d A n c' tl ps td P) (hd7 : d ≤ 7) (hg : w.grownBy w' (some g)) (ho : kPl.Own w' B (.slice (some ⟨g2, 0, none⟩) n2 c2) (ps ++ [⟨m, false⟩])) (hn2 : n2 = d + 1 + 1)
    (hm : MapIs Try.prog 9 w m 0 0 (fun _ => none)) (hmB : B ≤ m) (hnew : ∀ i (h : i < ps.length), ps[i].m ≠ m) :
    Fr (w'.setCell ⟨p, 0, none⟩ (.slice (some ⟨g2, 0, none⟩) n2 c2)) B p k g2 c2 (d + 1) A n c' tl (ps ++ [⟨m, false⟩]) td (P ++ [[]]) ∧ Below B w (w'.setCell ⟨p, 0, none⟩ (.slice (some ⟨g2, 0, none⟩) n2 c2)) := by
  subst hn2
  have b1 : But (fun j => j = g) w w' := But.of_grown hg (fun i hi _ => (Option.some.inj hi).symm)
  have hp : w'.heap[p]? = _ := (b1.block p h.lt (fun e => h.ne_own e.symm)).trans h.blk
  have b2 : But (fun j => j = g ∨ j = p) w (w'.setCell ⟨p, 0, none⟩ (.slice (some ⟨g2, 0, none⟩) (d + 1 + 1) c2)) := But.setCell (b1.mono fun _ _ e => .inl e) (fun _ => .inr rfl) _
  have hgB : B ≤ g := (h.own.lt (g := g) rfl).1
  have hmne : m ≠ p ∧ m ≠ g := by
    obtain ⟨es, cl, hb⟩ := hm.blk
    refine ⟨map_ne hb h.blk, ?_⟩
    obtain ⟨x, hx⟩ := h.own.ty (g := g) rfl
    exact map_ne hb hx
  refine ⟨Fr.mk h.base (by rw [List.length_append, h.len]; rfl) (by omega) (heap_set hp 0 _) (ho.keep fun j hj => ?_) (h.told.but b2 fun j hj e => ?_) (by rw [List.length_append, h.pl]; rfl) ?_ (fun i h1 h2 => ?_) h.tlen h.nk, b2.to_below (fun i _ e => ?_) h.size⟩
  · refine Below.heap_setCell _ _ _ _ ?_
    rintro rfl
    obtain ⟨x, hx⟩ := ho.ty hj
    exact heap_ne hx hp (by decide) rfl
  · rcases e with e | e
    · subst e
      obtain ⟨x, hx⟩ := h.own.ty (g := j) rfl
      obtain ⟨y, hy⟩ := h.told.ty hj
      exact heap_ne hx hy (by decide) rfl
    · exact h.ne_told hj e
  · rw [List.map_append, List.nodup_append]
    refine ⟨h.nd, by simp, fun a ha b hb => ?_⟩
    obtain ⟨i, hi, rfl⟩ := List.mem_iff_getElem.1 ha
    simp only [List.map_cons, List.map_nil, List.mem_singleton] at hb
    subst hb
    rw [List.getElem_map]
    exact hnew i (by simpa using hi)
  · by_cases hi : i < ps.length
    · have hi2 : i < P.length := by have := h.len; have := h.pl; omega
      obtain ⟨e1, e2, s, e3⟩ := h.at_ i hi hi2
      rw [List.getElem_append_left hi, List.getElem_append_left hi2]
      refine ⟨e1, e2, s, e3.kept (b2.block _ e3.lt ?_)⟩
      rintro (e | e)
      · exact (h.ne_map hi).2.1 e
      · exact (h.ne_map hi).1 e
    · have hi2 : ¬ i < P.length := by have := h.len; have := h.pl; omega
      rw [List.getElem_append_right (by omega), List.getElem_append_right (by omega)]
      have h0 : i - ps.length = 0 := by rw [List.length_append] at h1; simp only [List.length_cons, List.length_nil] at h1; omega
      have h0' : i - P.length = 0 := by have := h.len; have := h.pl; omega
      simp only [h0, h0', List.getElem_cons_zero]
      refine ⟨hmB, rfl, 0, ?_⟩
      rw [keysF_nil]
      exact (hm.mono (Nat.zero_le k)).kept (b2.block _ hm.lt (fun e => e.elim hmne.2 hmne.1))
  · rcases e with rfl | rfl
    · exact hgB
    · exact h.base
theorem own_form {α : Type} {Pr : Program} {K : Kind Pr α} {w : World} {B : Nat} {v : Value} {l : List α} (h : K.Own w B v l) (hl : 0 < l.length) : ∃ g n c, v = .slice (some ⟨g, 0, none⟩) n c ∧ l.length = n := by
  rcases h.form with ⟨_, rfl⟩ | ⟨g, c, _, hv, _⟩
  · simp at hl
  · exact ⟨g, _, c, hv, rfl⟩
theorem Fr.cap (h : Fr w B p k g c d A n c' tl ps td P) : d + 1 ≤ c := by
  obtain ⟨A', n', c9, hv, e1, e2, _, _, _⟩ := h.own.slice
  injection hv with h1 h2 h3
  subst h2; subst h3
  exact e2
theorem Fr.place (h : Fr w B p k g c d A n c' tl ps td P) : w.cell? ⟨g, d * 2, none⟩ = some (.map (some (ps[d]'(by have := h.pl; omega)).m)) ∧ w.cell? ⟨g, d * 2 + 1, none⟩ = some (.bool (ps[d]'(by have := h.pl; omega)).sk) ∧ w.frozen? ⟨g, d * 2 + 1, none⟩ = false := by
  obtain ⟨h1, h2, _⟩ := place_cells h.own (i := d) (by have := h.pl; omega)
  obtain ⟨x, hx⟩ := h.own.ty (g := g) rfl
  exact ⟨h1, h2, by simp [World.frozen?, hx]⟩
/-- the last place ends -/
theorem Fr.pop {e : Nat} (h : Fr w B p k g c e A n c' tl ps td P) (he : e = d + 1) :
    Fr (w.setCell ⟨p, 0, none⟩ (.slice (some ⟨g, 0, none⟩) e c)) B p k g c d A n c' tl (ps.take e) td P.dropLast ∧ Below B w (w.setCell ⟨p, 0, none⟩ (.slice (some ⟨g, 0, none⟩) e c)) := by
  subst he
  have b1 : But (fun j => j = p) w (w.setCell ⟨p, 0, none⟩ (.slice (some ⟨g, 0, none⟩) (d + 1) c)) := But.setCell (p := ⟨p, 0, none⟩) (But.refl (fun j => j = p) w) (fun _ => rfl) _
  have hpl := h.pl
  have hln := h.len
  refine ⟨Fr.mk h.base (by rw [List.length_dropLast, hln]; rfl) (by have := h.d8; omega) (heap_set h.blk 0 _) ((own_cut h.own (by omega)).but b1 fun j hj e => ?_) (h.told.but b1 fun j hj e => h.ne_told hj e) (by rw [List.length_take]; omega) (by rw [List.map_take]; exact (List.take_sublist _ _).nodup h.nd) (fun i h1 h2 => ?_) h.tlen h.nk, b1.to_below (fun i _ e => by subst e; exact h.base) h.size⟩
  · have : j = g := (Option.some.inj hj).symm
    subst this
    exact h.ne_own e
  · have hi : i < ps.length := by rw [List.length_take] at h1; omega
    obtain ⟨e1, e2, s, e3⟩ := h.at_ i hi (by omega)
    rw [List.getElem_take, List.getElem_dropLast]
    exact ⟨e1, e2, s, e3.kept (b1.block _ e3.lt (h.ne_map hi).1)⟩
end
end Go.Proofs.Ytfjnbjpenibpkaa.P13
