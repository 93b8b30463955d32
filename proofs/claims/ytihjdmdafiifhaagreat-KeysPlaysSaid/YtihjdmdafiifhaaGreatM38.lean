/- Two maps of a document beside it; a node that is asked; what is hit, plainly. No condition but those stated. -/
import Derived.Deep.RegionHeld3
import Derived.Test.YtihjdmdafiifhaaGreatM33
import Derived.Test.YtihjdmdafiifhaaGreatM34
import Derived.Test.YtihjdmdafiifhaaGreatM37
set_option linter.unusedVariables false
set_option linter.unusedSimpArgs false
set_option linter.unusedVariables false
set_option linter.unusedSimpArgs false
namespace Go.Proofs.YtihjdmdafiifhaaGreat.P15
open Go.RowKit Kd P4 P5

/-! ### Plain -/
def hitI (l : List Nd) (tag key : ByteArray) (i : Int) : Bool := match find l i with
  | some x => hitN tag key x
  | none => false
theorem hit_alt (tag key : ByteArray) (x : Nd) : hitN tag key x = (!x.tag.toList.isEmpty && !key.toList.isEmpty && (x.tag.toList == tag.toList) && (x.key.toList == key.toList)) := by
  unfold hitN keyN
  cases ek : (x.key.toList == key.toList) with
  | false => simp
  | true => rw [eq_of_beq ek]
theorem findL_cons (l : List Nd) (tag key : ByteArray) (i : Int) (r : List Int) : findL l tag key (i :: r) = if hitI l tag key i then i else findL l tag key r := by
  rw [findL]
  unfold hitI
  cases find l i with
  | none => rfl
  | some x => rfl
theorem hit_not {tag key : ByteArray} {x : Nd} (h : keyN x = false) : hitN tag key x = false := by unfold hitN; rw [h]; rfl
theorem hitI_none {l : List Nd} {tag key : ByteArray} {i : Int} (h : find l i = none) : hitI l tag key i = false := by unfold hitI; rw [h]
theorem hitI_some {l : List Nd} {tag key : ByteArray} {i : Int} {x : Nd} (h : find l i = some x) : hitI l tag key i = hitN tag key x := by unfold hitI; rw [h]
theorem findL_keyed (l : List Nd) (tag key : ByteArray) : ∀ ids : List Int, findL l tag key (cids (keyedL l ids)) = findL l tag key ids
  | [] => rfl
  | i :: r => by
    rw [keyedL, findL_cons]
    cases hf : find l i with
    | none =>
      rw [hitI_none hf, if_neg (by decide)]
      exact findL_keyed l tag key r
    | some x =>
      rw [hitI_some hf]
      simp only
      cases hk : keyN x with
      | false =>
        rw [if_neg (by decide), hit_not hk, if_neg (by decide)]
        exact findL_keyed l tag key r
      | true =>
        rw [if_pos rfl]
        show findL l tag key (i :: cids (keyedL l r)) = _
        rw [findL_cons, hitI_some hf, findL_keyed l tag key r]
theorem any_find {l : List Nd} {tag key : ByteArray} (h0 : hasL l 0 = false) : ∀ ids : List Int, (findL l tag key ids != 0) = ids.any (hitI l tag key)
  | [] => rfl
  | i :: r => by
    rw [findL_cons, List.any_cons]
    cases hh : hitI l tag key i with
    | false => rw [if_neg (by decide), any_find h0 r]; rfl
    | true =>
      have hi : i ≠ 0 := fun e => by
        subst e
        unfold hitI at hh
        unfold hasL at h0
        cases hf : find l 0 with
        | none => rw [hf] at hh; cases hh
        | some x => rw [hf] at h0; cases h0
      rw [if_pos rfl]
      simpa using hi
theorem first_hit {l : List Nd} {tag key : ByteArray} : ∀ {ids : List Int} {k : Nat} (hk : k < ids.length), (ids.take k).any (hitI l tag key) = false → hitI l tag key ids[k] = true → findL l tag key ids = ids[k]
  | [], k, hk, _, _ => by simp at hk
  | i :: r, 0, hk, _, h2 => by rw [findL_cons]; exact if_pos h2
  | i :: r, k + 1, hk, h1, h2 => by
    rw [List.take_succ_cons, List.any_cons, Bool.or_eq_false_iff] at h1
    rw [findL_cons, if_neg (by rw [h1.1]; decide)]
    exact first_hit (by simpa using hk) h1.2 h2
theorem any_take {l : List Nd} {tag key : ByteArray} {ids : List Int} {k : Nat} (hk : k < ids.length) : (ids.take (k + 1)).any (hitI l tag key) = ((ids.take k).any (hitI l tag key) || hitI l tag key ids[k]) := by
  rw [List.take_succ_eq_append_getElem hk, List.any_append]
  simp
theorem len_take {l : List Nd} {ids : List Int} {k : Nat} (hk : k < ids.length) : (keyedL l (ids.take (k + 1))).length = (keyedL l (ids.take k)).length + (keyedL l [ids[k]]).length := by
  rw [List.take_succ_eq_append_getElem hk, keyed_snoc, List.length_append]
theorem gone_n (d : D) (i : Int) : (goneD d i).2.n = d.n := by
  unfold goneD
  split
  · rfl
  · split <;> rfl
/-! ### A node that is asked -/
variable {Mp : World → Nat → MS → (Nat → Prop) → (Nat → Prop) → Prop} {w w' : World} {B p : Nat} {x x' : Dx}
theorem node_c (i : Int) (hwf : WF x.d) (h : Dc w B p x) : Calls Tryz.prog 14 #[.pointer (some ⟨p, 0, none⟩), .int .i64 i] w fun e w' => ∃ (nd : Nd) (A : Option Addr) (n c : Nat) (A2 : Option Addr) (n2 c2 : Nat),
    e = .returned (.tuple #[.agg #[.int .i64 nd.id, .int .i64 nd.par, .string nd.tag, .string nd.txt, .string nd.key, .slice A n c, .slice A2 n2 c2, .int .i64 nd.note], .bool (hasL x.l i)]) ∧ (∀ z, find x.l i = some z → nd = z) ∧ Below w.heap.size w w' := by
  cases hi : hasL x.l i with
  | false =>
    refine (tell_no i w hi h).mono ?_
    rintro e w' ⟨rfl, hb⟩
    refine ⟨⟨0, 0, ⟨#[]⟩, ⟨#[]⟩, ⟨#[]⟩, [], [], 0⟩, none, 0, 0, none, 0, 0, rfl, fun z hz => ?_, hb⟩
    unfold hasL at hi
    rw [hz] at hi
    cases hi
  | true =>
    obtain ⟨k, hk, hy, hf⟩ := h.place hi
    obtain ⟨_, _, _, q4, q5⟩ := P6.wf_kids hwf h hk hy
    refine (tell_yes i w hk hy rfl q4 q5 h).mono ?_
    rintro e w' ⟨A, n, c, A2, n2, c2, rfl, _, _, hb⟩
    refine ⟨x.rs[k].nd, A, n, c, A2, n2, c2, rfl, fun z hz => ?_, hb⟩
    rw [hf] at hz
    injection hz
theorem hit_was {l : List Nd} {tag key : ByteArray} {i : Int} {nd : Nd} (h : ∀ z, find l i = some z → nd = z) : hitI l tag key i = (hasL l i && hitN tag key nd) := by
  unfold hitI hasL
  cases hf : find l i with
  | none => rfl
  | some z => rw [h z hf]; rfl
theorem key_was {l : List Nd} {i : Int} {nd : Nd} (h : ∀ z, find l i = some z → nd = z) : (keyedL l [i]).length = if hasL l i && keyN nd then 1 else 0 := by
  rw [keyedL]
  unfold hasL
  cases hf : find l i with
  | none => rfl
  | some z =>
    rw [h z hf]
    simp only
    cases keyN z <;> rfl
/-! ### Two maps -/
structure Two (Mp : World → Nat → MS → (Nat → Prop) → (Nat → Prop) → Prop) (B0 : Nat) (w : World) (B p : Nat) (x : Dx) (g1 g2 : Nat) (S1 S2 : MS) (R1 W1 R2 W2 : Nat → Prop) : Prop where
  dc : Dc w B p x
  wf : WF x.d
  m1 : Mp w g1 S1 R1 W1
  m2 : Mp w g2 S2 R2 W2
  a12 : ∀ k, W1 k → ¬ R2 k ∧ ¬ W2 k
  a21 : ∀ k, W2 k → ¬ R1 k ∧ ¬ W1 k
  f1 : ∀ k, foot p x k → ¬ R1 k ∧ ¬ W1 k
  f2 : ∀ k, foot p x k → ¬ R2 k ∧ ¬ W2 k
  lo1 : ∀ k, W1 k → B0 ≤ k
  lo2 : ∀ k, W2 k → B0 ≤ k
  base : B0 ≤ B
  size : B0 ≤ w.heap.size
variable {B0 g1 g2 : Nat} {S1 S2 S1' S2' : MS} {R1 W1 R2 W2 : Nat → Prop}
theorem Two.below (K : KeysK Mp) (h : Two Mp B0 w B p x g1 g2 S1 S2 R1 W1 R2 W2) (hb : Below w.heap.size w w') : Two Mp B0 w' B p x g1 g2 S1 S2 R1 W1 R2 W2 :=
  ⟨h.dc.below hb, h.wf, K.below h.m1 hb, K.below h.m2 hb, h.a12, h.a21, h.f1, h.f2, h.lo1, h.lo2, h.base, Nat.le_trans h.size hb.size⟩
theorem Two.swap (h : Two Mp B0 w B p x g1 g2 S1 S2 R1 W1 R2 W2) : Two Mp B0 w B p x g2 g1 S2 S1 R2 W2 R1 W1 := ⟨h.dc, h.wf, h.m2, h.m1, h.a21, h.a12, h.f2, h.f1, h.lo2, h.lo1, h.base, h.size⟩
/-- a call of the first map's -/
theorem Two.op (K : KeysK Mp) (h : Two Mp B0 w B p x g1 g2 S1 S2 R1 W1 R2 W2) (ha : AfterM Mp w g1 R1 W1 S1' w') : (∃ R1' W1', Two Mp B0 w' B p x g1 g2 S1' S2 R1' W1' R2 W2) ∧ Below B0 w w' := by
  have h2 := apart_after K h.m2 h.a12 ha
  obtain ⟨R', W', hm, hb, hw, hr⟩ := ha
  refine ⟨⟨R', W', h.dc.but hb (fun k hk hw => (h.f1 k hk).2 hw) (K.noA h.m1), h.wf, hm, h2, fun k hk => ?_, fun k hk => ⟨fun e => ?_, fun e => ?_⟩, fun k hk => ⟨fun e => ?_, fun e => ?_⟩, h.f2, fun k hk => ?_, h.lo2, h.base, Nat.le_trans h.size hb.size⟩, hb.to_below (fun i _ hi => h.lo1 i hi) h.size⟩
  · rcases hw k hk with e | e
    · exact h.a12 k e
    · exact ⟨fun e2 => by have := K.rd h.m2 e2; omega, fun e2 => by have := K.wr h.m2 e2; omega⟩
  · have hl := K.wr h.m2 hk
    rcases hr k e with e | e | e
    · exact (h.a21 k hk).1 e
    · exact (h.a21 k hk).2 e
    · omega
  · have hl := K.wr h.m2 hk
    rcases hw k e with e | e
    · exact (h.a21 k hk).2 e
    · omega
  · have hl := h.dc.lt hk
    rcases hr k e with e | e | e
    · exact (h.f1 k hk).1 e
    · exact (h.f1 k hk).2 e
    · omega
  · have hl := h.dc.lt hk
    rcases hw k e with e | e
    · exact (h.f1 k hk).2 e
    · omega
  · rcases hw k hk with e | e
    · exact h.lo1 k e
    · have := h.size; omega
/-- the document is changed -/
theorem Two.did (K : KeysK Mp) (h : Two Mp B0 w B p x g1 g2 S1 S2 R1 W1 R2 W2) (hd : Did w B p x x' w') (hwf : WF x'.d) : Two Mp B0 w' B p x' g1 g2 S1 S2 R1 W1 R2 W2 ∧ Below B0 w w' := by
  refine ⟨⟨hd.dc, hwf, K.keep h.m1 hd.but (fun k hk hf => (h.f1 k hf).1 hk) (fun k hk hf => (h.f1 k hf).2 hk), K.keep h.m2 hd.but (fun k hk hf => (h.f2 k hf).1 hk) (fun k hk hf => (h.f2 k hf).2 hk), h.a12, h.a21, fun k hk => ?_, fun k hk => ?_, h.lo1, h.lo2, h.base, Nat.le_trans h.size hd.but.size⟩, hd.but.to_below (fun i _ hi => by have := h.dc.ge hi; have := h.base; omega) h.size⟩
  · rcases hd.ft k hk with e | e
    · exact h.f1 k e
    · exact ⟨fun e2 => by have := K.rd h.m1 e2; omega, fun e2 => by have := K.wr h.m1 e2; omega⟩
  · rcases hd.ft k hk with e | e
    · exact h.f2 k e
    · exact ⟨fun e2 => by have := K.rd h.m2 e2; omega, fun e2 => by have := K.wr h.m2 e2; omega⟩
theorem Two.ask1 (h : Two Mp B0 w B p x g1 g2 S1 S2 R1 W1 R2 W2) (hd : S1.doc = some p) (hn : x.n ≤ 1000000) : AskOk w S1 x.l := fun _ p' hp => by
  rw [hd] at hp
  injection hp with hp
  subst hp
  refine ⟨B, x, h.dc, h.wf, rfl, fun z hz => ?_⟩
  have h1 := (h.wf.rng z hz).2
  rw [show x.d.n = x.n from rfl] at h1
  omega
end Go.Proofs.YtihjdmdafiifhaaGreat.P15

/- keys: one more node is looked at. No condition but those stated. -/
set_option linter.unusedVariables false
set_option linter.unusedSimpArgs false
namespace Go.Proofs.YtihjdmdafiifhaaGreat.P15
open Go.RowKit Kd P4 P5 Mv

theorem node_k {w : World} {B p : Nat} {x : Dx} (i : Int) (hwf : WF x.d) (h : Dc w B p x) : Calls Tryz.prog 14 #[.pointer (some ⟨p, 0, none⟩), .int .i64 i] w fun e w' => ∃ (nd : Nd) (A : Option Addr) (n c : Nat) (A2 : Option Addr) (n2 c2 : Nat),
    e = .returned (.tuple #[.agg #[.int .i64 nd.id, .int .i64 nd.par, .string nd.tag, .string nd.txt, .string nd.key, .slice A n c, .slice A2 n2 c2, .int .i64 nd.note], .bool (hasL x.l i)]) ∧ (match find x.l i with | some z => nd = z | none => nd.key = ⟨#[]⟩) ∧ Below w.heap.size w w' := by
  cases hi : hasL x.l i with
  | false =>
    refine (tell_no i w hi h).mono ?_
    rintro e w' ⟨rfl, hb⟩
    refine ⟨⟨0, 0, ⟨#[]⟩, ⟨#[]⟩, ⟨#[]⟩, [], [], 0⟩, none, 0, 0, none, 0, 0, rfl, ?_, hb⟩
    cases hf : find x.l i with
    | none => rfl
    | some z => unfold hasL at hi; rw [hf] at hi; cases hi
  | true =>
    obtain ⟨k, hk, hy, hf⟩ := h.place hi
    obtain ⟨_, _, _, q4, q5⟩ := P6.wf_kids hwf h hk hy
    refine (tell_yes i w hk hy rfl q4 q5 h).mono ?_
    rintro e w' ⟨A, n, c, A2, n2, c2, rfl, _, _, hb⟩
    refine ⟨x.rs[k].nd, A, n, c, A2, n2, c2, rfl, ?_, hb⟩
    rw [hf]
/-- what is added -/
theorem keyed_one {d : D} (hwf : WF d) {i : Int} {nd : Nd} (h : match find d.l i with | some z => nd = z | none => nd.key = ⟨#[]⟩) :
    keyedL d.l [i] = if nd.key.toList = [] then [] else [⟨i, nd.tag, nd.key⟩] := by
  rw [keyedL]
  cases hf : find d.l i with
  | none =>
    rw [hf] at h
    simp only at h
    rw [h, if_pos (ByteArray.toList_eq _)]
    rfl
  | some z =>
    rw [hf] at h
    simp only at h
    subst h
    obtain ⟨hm, _⟩ := find_some hf
    have ht := (hwf.keyt _ hm).1
    simp only
    unfold keyN
    by_cases hk : nd.key.toList = []
    · rw [if_pos hk, hk]
      simp [keyedL]
    · rw [if_neg hk]
      have h1 : nd.tag.toList ≠ [] := fun e => hk (ht e)
      cases e1 : nd.tag.toList with
      | nil => exact absurd e1 h1
      | cons a r =>
        cases e2 : nd.key.toList with
        | nil => exact absurd e2 hk
        | cons a' r' => rfl
/-- one that has a key is in the document: its number, its sizes -/
theorem keyed_sz {d : D} (hwf : WF d) {i : Int} {nd : Nd} (h : match find d.l i with | some z => nd = z | none => nd.key = ⟨#[]⟩) (hk : nd.key.toList ≠ []) : (1 ≤ i ∧ ∃ z ∈ d.l, z.id = i) ∧ nd.tag.size ≤ 60 ∧ nd.key.size ≤ 60 := by
  cases hf : find d.l i with
  | none =>
    rw [hf] at h
    simp only at h
    rw [h] at hk
    exact absurd (ByteArray.toList_eq _) hk
  | some z =>
    rw [hf] at h
    simp only at h
    subst h
    obtain ⟨hm, hid⟩ := find_some hf
    obtain ⟨_, h2, h3⟩ := hwf.keyt _ hm
    have := hwf.rng _ hm
    rw [hid] at this
    exact ⟨⟨this.1, nd, hm, hid⟩, h2, h3⟩
/-! ### The entry of a tag and a key is taken, one is appended, the entry is stored -/
def S4 (g m1 b8 : Nat) (tg ky : ByteArray) (w' : World) : Prop := w'.cell? ⟨g, 5, none⟩ = some (.map (some m1)) ∧ w'.cell? ⟨b8, 0, none⟩ = some (.string tg) ∧ w'.cell? ⟨b8, 1, none⟩ = some (.string ky)
structure R4 (W : World) (g m1 m2 b8 nb s1 N : Nat) (tg ky : ByteArray) (i : Int) (f f2 : Lit → Option Value) (left : List Ch) (vv d s : Value) : Prop where
  kb : KB W g 0 1 d s (some m1) (some m2)
  mp : MpK W m1 m2 s1 N f f2 left
  hb8 : W.heap[b8]? = some (.cells #[.string tg, .string ky] 82 (0, 0))
  hnb : W.heap[nb]? = some (.cells #[.int .i64 i] 3 (0, 0))
  hvv : (f (kn tg ky)).getD (.slice none 0 0) = vv
  nbv : vv.ownBlock ≠ some nb
  t1 : tg.size ≤ maxLen
  t2 : ky.size ≤ maxLen
section
variable {W W' w' : World} {g m1 m2 b8 nb s1 N : Nat} {tg ky : ByteArray} {i : Int} {f f2 : Lit → Option Value} {left : List Ch} {vv d s : Value}
theorem R4.own (h : R4 W g m1 m2 b8 nb s1 N tg ky i f f2 left vv d s) : kI.Own W 0 vv (idsK left tg ky) := by
  have := h.mp.at_ tg ky h.t1 h.t2
  rwa [h.hvv] at this
theorem not_map {w : World} {b : Nat} {k n s : Nat} {f : Lit → Option Value} {cur : Array Value} {t : TypeId} {fr : Nat × Nat} (h : MapIs Tryz.prog k w b n s f) (hc : w.heap[b]? = some (.cells cur t fr)) : False := by
  obtain ⟨es, cl, h1⟩ := h.blk
  rw [h1] at hc
  injection hc with hc
  cases hc
theorem R4.m1vv (h : R4 W g m1 m2 b8 nb s1 N tg ky i f f2 left vv d s) : vv.ownBlock ≠ some m1 := fun e => by
  obtain ⟨cur, hc⟩ := h.own.ty e
  exact not_map h.mp.a1 hc
theorem R4.m2vv (h : R4 W g m1 m2 b8 nb s1 N tg ky i f f2 left vv d s) : vv.ownBlock ≠ some m2 := fun e => by
  obtain ⟨cur, hc⟩ := h.own.ty e
  exact not_map h.mp.a2 hc
/-- what is read stays, when the map and the slice turn -/
theorem R4.reads (h : R4 W g m1 m2 b8 nb s1 N tg ky i f f2 left vv d s) (hb : But (fun k => k = m1 ∨ vv.ownBlock = some k) W w') : S4 g m1 b8 tg ky w' ∧ KB w' g 0 1 d s (some m1) (some m2) ∧ w'.heap[b8]? = some (.cells #[.string tg, .string ky] 82 (0, 0)) ∧ w'.heap[nb]? = some (.cells #[.int .i64 i] 3 (0, 0)) := by
  have hg : w'.heap[g]? = W.heap[g]? := hb.block g h.kb.lt fun e => by
    rcases e with rfl | e
    · exact not_map h.mp.a1 h.kb
    · obtain ⟨cur, hc⟩ := h.own.ty e
      exact heap_ne hc h.kb (by decide) rfl
  have h8 : w'.heap[b8]? = W.heap[b8]? := hb.block b8 (heap_lt h.hb8) fun e => by
    rcases e with rfl | e
    · exact not_map h.mp.a1 h.hb8
    · obtain ⟨cur, hc⟩ := h.own.ty e
      exact heap_ne hc h.hb8 (by decide) rfl
  have hn : w'.heap[nb]? = W.heap[nb]? := hb.block nb (heap_lt h.hnb) fun e => by
    rcases e with rfl | e
    · exact not_map h.mp.a1 h.hnb
    · exact h.nbv e
  have hk := h.kb.kept hg
  have h8' := h8.trans h.hb8
  exact ⟨⟨hk.c5, cell_of_row w' b8 0 _ _ (0, 0) h8', cell_of_row w' b8 1 _ _ (0, 0) h8'⟩, hk, h8', hn.trans h.hnb⟩
/-- the entry is taken -/
theorem R4.one (h : R4 W g m1 m2 b8 nb s1 N tg ky i f f2 left vv d s) (g4 : W.grownBy w' (some m1)) : But (fun k => k = m1 ∨ vv.ownBlock = some k) W w' ∧ kI.Own w' 0 vv (idsK left tg ky) ∧ kI.Holds w' w'.heap.size (some ⟨nb, 0, none⟩) [i] := by
  have hb : But (fun k => k = m1 ∨ vv.ownBlock = some k) W w' := But.of_grown g4 (fun k hk _ => .inl (Option.some.inj hk).symm)
  refine ⟨hb, h.own.grown g4 (fun k hk e => h.m1vv (hk.trans e.symm)), ?_⟩
  have hl := heap_lt (h.reads hb).2.2.2
  exact (Kind.Holds.lit (h.reads hb).2.2.2 rfl).more hl
/-- one is appended -/
theorem R4.two (h : R4 W g m1 m2 b8 nb s1 N tg ky i f f2 left vv d s) (hb : But (fun k => k = m1 ∨ vv.ownBlock = some k) W w') {w5 : World} {l : Lit} {st n s' t : Nat} (hh : Half Tryz.prog t 82 w' m1 n s' f l st) (g5 : w'.grownBy w5 vv.ownBlock) :
    But (fun k => k = m1 ∨ vv.ownBlock = some k) W w5 ∧ Half Tryz.prog t 82 w5 m1 n s' f l st :=
  ⟨hb.trans (But.of_grown (S := fun k => vv.ownBlock = some k) g5 (fun _ hk _ => hk)) (fun _ _ e => .inr e), hh.kept (g5.block _ hh.lt (fun e => h.m1vv e.symm))⟩
/-- it is stored -/
theorem R4.three (h : R4 W g m1 m2 b8 nb s1 N tg ky i f f2 left vv d s) (hb : But (fun k => k = m1 ∨ vv.ownBlock = some k) W w') {w6 : World} {v5 : Value} {l5 : List Int} (ho : kI.Own w' 0 v5 l5) (hat : v5.ownBlock = vv.ownBlock ∨ ∃ k, v5.ownBlock = some k ∧ W.heap.size ≤ k) (g6 : w'.grownBy w6 (some m1)) :
    But (fun k => k = m1 ∨ vv.ownBlock = some k) W w6 ∧ kI.Own w6 0 v5 l5 := by
  have hl := h.mp.a1.lt
  refine ⟨hb.trans (But.of_grown (S := fun k => k = m1) g6 (fun _ hk _ => (Option.some.inj hk).symm)) (fun _ _ e => .inl e), ho.grown g6 fun k hk e => ?_⟩
  have e := Option.some.inj e
  subst e
  rcases hat with h1 | ⟨k, h1, h2⟩
  · exact h.m1vv (h1.symm.trans hk)
  · rw [h1] at hk
    have := Option.some.inj hk
    omega
end
end Go.Proofs.YtihjdmdafiifhaaGreat.P15
