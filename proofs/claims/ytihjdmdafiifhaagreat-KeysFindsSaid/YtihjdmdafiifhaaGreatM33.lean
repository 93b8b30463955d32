/- A map beside a document, and a list of its identities: what the map's calls do. No condition but those stated. -/
import Derived.Deep.RegionHeld3
import Derived.Test.YtihjdmdafiifhaaGreatM6
import Derived.Test.YtihjdmdafiifhaaGreatM32
set_option linter.unusedVariables false
set_option linter.unusedSimpArgs false
set_option linter.unusedVariables false
set_option linter.unusedSimpArgs false
namespace Go.Proofs.YtihjdmdafiifhaaGreat.P15
open Go.RowKit Kd P4 P5

/-! ### Plain -/
def InC (l : List Nd) (c : Ch) : Prop := c.id ≠ 0 ∧ ∃ x, find l c.id = some x ∧ keyN x = true ∧ c.tag = x.tag ∧ c.key = x.key
theorem hit_eq {tag key : ByteArray} {c : Ch} {x : Nd} (hk : keyN x = true) (h1 : c.tag = x.tag) (h2 : c.key = x.key) : hitC tag key c = hitN tag key x := by
  unfold hitC hitN
  rw [hk, h1, h2]
  rfl
theorem find_eq {l : List Nd} (tag key : ByteArray) : ∀ {left : List Ch}, (∀ c ∈ left, InC l c) → findM left tag key = (findL l tag key (cids left), findL l tag key (cids left) != 0)
  | [], _ => rfl
  | c :: r, h => by
    obtain ⟨h0, x, hx, hk, h1, h2⟩ := h c (by simp)
    have ih := find_eq tag key (left := r) (fun d hd => h d (List.mem_cons_of_mem _ hd))
    show findM (c :: r) tag key = (findL l tag key (c.id :: cids r), findL l tag key (c.id :: cids r) != 0)
    rw [findL, hx]
    simp only
    unfold findM at ih ⊢
    rw [List.find?_cons, hit_eq hk h1 h2]
    cases hitN tag key x with
    | true => simp [h0]
    | false => simpa using ih
def posI (l : List Int) (t : Int) : Nat → Int
  | 0 => -1
  | j + 1 => if l[j]? = some t then (j : Int) else posI l t j
theorem posI_no {l : List Int} {t : Int} (h : t ∉ l) : ∀ j, posI l t j = -1
  | 0 => rfl
  | j + 1 => by
    rw [posI, if_neg (fun e => h (List.mem_of_getElem? e)), posI_no h j]
theorem posI_at {l : List Int} {t : Int} (hd : l.Nodup) {k : Nat} (hk : k < l.length) (he : l[k] = t) : ∀ j, posI l t j = if k < j then (k : Int) else -1
  | 0 => rfl
  | j + 1 => by
    rw [posI]
    by_cases e : j = k
    · subst e
      rw [if_pos (by rw [List.getElem?_eq_getElem hk, he]), if_pos (by omega)]
    · rw [if_neg, posI_at hd hk he j]
      · by_cases h2 : k < j
        · rw [if_pos h2, if_pos (by omega)]
        · rw [if_neg h2, if_neg (by omega)]
      · intro h2
        obtain ⟨hj, h3⟩ := List.getElem?_eq_some_iff.1 h2
        rcases Nat.lt_trichotomy j k with h4 | h4 | h4
        · exact (List.pairwise_iff_getElem.1 hd j k hj hk h4) (h3.trans he.symm)
        · exact e h4
        · exact (List.pairwise_iff_getElem.1 hd k j hk hj h4) (he.trans h3.symm)
theorem filter_out {l : List Int} {t : Int} (hd : l.Nodup) {k : Nat} (hk : k < l.length) (he : l[k] = t) : l.filter (fun j => !decide (j = t)) = l.take k ++ l.drop (k + 1) := by
  have hl : l = l.take k ++ t :: l.drop (k + 1) := by rw [← he, ← List.drop_eq_getElem_cons hk, List.take_append_drop]
  have hn := hd
  rw [hl, List.nodup_append] at hn
  obtain ⟨_, h2, h3⟩ := hn
  obtain ⟨h4, _⟩ := List.nodup_cons.1 h2
  conv => lhs; rw [hl]
  rw [List.filter_append, List.filter_cons, if_neg (by simp)]
  rw [List.filter_eq_self.2 (fun a ha => by simpa using h3 a ha t (by simp)), List.filter_eq_self.2 (fun a ha => by
    have : a ≠ t := fun e => h4 (e ▸ ha)
    simpa using this)]
structure StOk (l : List Nd) (ids : List Int) (p : Nat) (S : MS) (left : List Ch) : Prop where
  is : S.ids = ids
  doc : S.doc = some p
  lf : (asks S l).left = left
  inl : ∀ c ∈ left, InC l c
  nd : (cids left).Nodup
  len : left.length ≤ 40
  small : ∀ z ∈ l, z.id ≤ 1000000
theorem StOk.new {l : List Nd} {ids : List Int} {p : Nat} (h0 : hasL l 0 = false) (hd : ids.Nodup) (hl : ids.length ≤ 40) (hs : ∀ z ∈ l, z.id ≤ 1000000) : StOk l ids p ⟨false, some p, ids, []⟩ (keyedL l ids) := by
  refine ⟨rfl, rfl, rfl, fun c hc => ?_, keyed_nodup hd, Nat.le_trans (keyed_len l ids) hl, hs⟩
  obtain ⟨_, x, h1, h2, h3, h4⟩ := keyed_mem hc
  refine ⟨fun e => ?_, x, h1, h2, h3, h4⟩
  rw [e] at h1
  rw [find_has h1] at h0
  cases h0
theorem StOk.ask {l : List Nd} {ids : List Int} {p : Nat} {S : MS} {left : List Ch} (h : StOk l ids p S left) : StOk l ids p (asks S l) left :=
  ⟨(asks_ids S l).trans h.is, (asks_doc S l).trans h.doc, by rw [asks_left (asks_asked S l)]; exact h.lf, h.inl, h.nd, h.len, h.small⟩
theorem StOk.drop {l : List Nd} {ids : List Int} {p : Nat} {S : MS} {left : List Ch} (h : StOk l ids p S left) (i : Int) : StOk l ids p { asks S l with left := dropM left i } (dropM left i) := by
  refine ⟨(asks_ids S l).trans h.is, (asks_doc S l).trans h.doc, ?_, fun c hc => h.inl c (List.mem_filter.1 hc).1, ?_, Nat.le_trans (List.length_filter_le _ _) h.len, h.small⟩
  · rw [asks_left (S := { asks S l with left := dropM left i }) (asks_asked S l)]
  · rw [drop_ids]; exact h.nd.filter _
/-! ### In memory -/
variable {Mp : World → Nat → MS → (Nat → Prop) → (Nat → Prop) → Prop} {w3 : World} {B p g : Nat} {x : Dx} {l : List Nd} {ids : List Int} {v : Value} {ol : List Int} {left : List Ch} {w w' : World}
/-- the map at g, of the document at p as it was at w3; beside it a list of one's own -/
def Sit (Mp : World → Nat → MS → (Nat → Prop) → (Nat → Prop) → Prop) (w3 : World) (l : List Nd) (ids : List Int) (p g : Nat) (v : Value) (ol : List Int) (left : List Ch) (w : World) : Prop :=
  ∃ (S : MS) (Rd Wr : Nat → Prop), kI.Own w w3.heap.size v ol ∧ Mp w g S Rd Wr ∧ StOk l ids p S left ∧ (∀ k, Wr k → w3.heap.size ≤ k) ∧ (∀ k, v.ownBlock = some k → ¬ Wr k) ∧ Below w3.heap.size w3 w
theorem Sit.out3 (h : Sit Mp w3 l ids p g v ol left w) : Below w3.heap.size w3 w := by obtain ⟨_, _, _, _, _, _, _, _, h⟩ := h; exact h
theorem Sit.own (h : Sit Mp w3 l ids p g v ol left w) : kI.Own w w3.heap.size v ol := by obtain ⟨_, _, _, h, _⟩ := h; exact h
theorem Sit.st (h : Sit Mp w3 l ids p g v ol left w) : (∀ c ∈ left, InC l c) ∧ (cids left).Nodup ∧ left.length ≤ 40 := by obtain ⟨S, _, _, _, _, h, _⟩ := h; exact ⟨h.inl, h.nd, h.len⟩
theorem Sit.below (K : KeysK Mp) (h : Sit Mp w3 l ids p g v ol left w) (hb : Below w.heap.size w w') : Sit Mp w3 l ids p g v ol left w' := by
  obtain ⟨S, Rd, Wr, h1, h2, h3, h4, h5, h6⟩ := h
  exact ⟨S, Rd, Wr, h1.below hb (Nat.le_refl _), K.below h2 hb, h3, h4, h5, h6.trans (hb.mono h6.size)⟩
/-- another list in its place -/
theorem Sit.list (K : KeysK Mp) {v' : Value} {ol' : List Int} (h : Sit Mp w3 l ids p g v ol left w) (hb : Below w.heap.size w w') (ho : kI.Own w' w.heap.size v' ol') : Sit Mp w3 l ids p g v' ol' left w' := by
  obtain ⟨S, Rd, Wr, h1, h2, h3, h4, h5, h6⟩ := h
  exact ⟨S, Rd, Wr, ho.base_le h6.size, K.below h2 hb, h3, h4, fun k hk hw => by have := (ho.lt hk).1; have := K.wr h2 hw; omega, h6.trans (hb.mono h6.size)⟩
theorem Sit.after (K : KeysK Mp) {S S' : MS} {Rd Wr : Nat → Prop} {left' : List Ch} (h1 : kI.Own w w3.heap.size v ol) (h2 : Mp w g S Rd Wr) (h4 : ∀ k, Wr k → w3.heap.size ≤ k) (h5 : ∀ k, v.ownBlock = some k → ¬ Wr k) (h6 : Below w3.heap.size w3 w) (hs : StOk l ids p S' left') (ha : AfterM Mp w g Rd Wr S' w') : Sit Mp w3 l ids p g v ol left' w' := by
  obtain ⟨Rd', Wr', hm, hb, hw, hr⟩ := ha
  refine ⟨S', Rd', Wr', h1.but hb h5, hm, hs, fun k hk => ?_, fun k hk hw' => ?_, h6.trans (hb.to_below (fun i _ hi => h4 i hi) h6.size)⟩
  · rcases hw k hk with e | e
    · exact h4 k e
    · have := h6.size; omega
  · rcases hw k hw' with e | e
    · exact h5 k hk e
    · have := (h1.lt hk).2; omega
theorem sit_ask (hx : Dc w3 B p x) (hwf : WF x.d) (hl : x.l = l) {S : MS} (hs : StOk l ids p S left) (h6 : Below w3.heap.size w3 w) : AskOk w S l := fun _ p' hp => by
  rw [hs.doc] at hp
  injection hp with hp
  subst hp
  exact ⟨B, x, hx.below h6, hwf, hl, hs.small⟩
theorem sit_find (K : KeysK Mp) (hx : Dc w3 B p x) (hwf : WF x.d) (hl : x.l = l) (hn : ids.length ≤ 1000) (hd : ids.Nodup) (tag key : ByteArray) (ht : tag.size ≤ 100000) (hk : key.size ≤ 100000) (h : Sit Mp w3 l ids p g v ol left w) :
    Calls Tryz.prog 11 #[.pointer (some ⟨g, 0, none⟩), .string tag, .string key] w fun e w' => e = .returned (.tuple #[.int .i64 (findL l tag key (cids left)), .bool (findL l tag key (cids left) != 0)]) ∧ Sit Mp w3 l ids p g v ol left w' := by
  obtain ⟨S, Rd, Wr, h1, h2, h3, h4, h5, h6⟩ := h
  refine (K.find tag key l S Rd Wr g w h2 (by rw [h3.is]; exact hn) (by rw [h3.is]; exact hd) (sit_ask hx hwf hl h3 h6) ht hk).mono ?_
  rintro e w' ⟨rfl, ha⟩
  refine ⟨?_, Sit.after K h1 h2 h4 h5 h6 h3.ask ha⟩
  rw [h3.lf, find_eq tag key h3.inl]
theorem sit_drop (K : KeysK Mp) (hx : Dc w3 B p x) (hwf : WF x.d) (hl : x.l = l) (hn : ids.length ≤ 1000) (hd : ids.Nodup) (i : Int) (h : Sit Mp w3 l ids p g v ol left w) :
    Calls Tryz.prog 10 #[.pointer (some ⟨g, 0, none⟩), .int .i64 i] w fun e w' => e = .returned (.bool (hasM left i)) ∧ Sit Mp w3 l ids p g v ol (dropM left i) w' := by
  obtain ⟨S, Rd, Wr, h1, h2, h3, h4, h5, h6⟩ := h
  refine (K.drop i l S Rd Wr g w h2 (by rw [h3.is]; exact hn) (by rw [h3.is]; exact hd) (sit_ask hx hwf hl h3 h6)).mono ?_
  rintro e w' ⟨rfl, ha⟩
  rw [h3.lf] at ha ⊢
  exact ⟨rfl, Sit.after K h1 h2 h4 h5 h6 (h3.drop i) ha⟩
theorem sit_len (K : KeysK Mp) (hx : Dc w3 B p x) (hwf : WF x.d) (hl : x.l = l) (hn : ids.length ≤ 1000) (hd : ids.Nodup) (h : Sit Mp w3 l ids p g v ol left w) :
    Calls Tryz.prog 13 #[.pointer (some ⟨g, 0, none⟩)] w fun e w' => e = .returned (.int .i64 (left.length : Nat)) ∧ Sit Mp w3 l ids p g v ol left w' := by
  obtain ⟨S, Rd, Wr, h1, h2, h3, h4, h5, h6⟩ := h
  refine (K.len l S Rd Wr g w h2 (by rw [h3.is]; exact hn) (by rw [h3.is]; exact hd) (sit_ask hx hwf hl h3 h6)).mono ?_
  rintro e w' ⟨rfl, ha⟩
  rw [h3.lf]
  exact ⟨rfl, Sit.after K h1 h2 h4 h5 h6 h3.ask ha⟩
end Go.Proofs.YtihjdmdafiifhaaGreat.P15

/- Ways through a document, as plain functions: down by places; what is below is inside; each of the nodes below has its parent ahead of it. No condition. -/
set_option linter.unusedVariables false
set_option linter.unusedSimpArgs false
namespace Go.Proofs.YtihjdmdafiifhaaGreat.P6
open P5

/-- from i on, the child at each place -/
def downL (l : List Nd) : Int → List Int → Option Int
  | i, [] => some i
  | i, t :: r => if h : t < 0 ∨ (kidsOf l i).length ≤ t.toNat then none else downL l ((kidsOf l i)[t.toNat]'(by omega)) r
theorem down_nil (l : List Nd) (i : Int) : downL l i [] = some i := rfl
theorem down_no {l : List Nd} {i t : Int} {r : List Int} (h : t < 0 ∨ (kidsOf l i).length ≤ t.toNat) : downL l i (t :: r) = none := by rw [downL, dif_pos h]
theorem down_yes {l : List Nd} {i : Int} {r : List Int} {m : Nat} (h : m < (kidsOf l i).length) : downL l i ((m : Int) :: r) = downL l (kidsOf l i)[m] r := by
  rw [downL, dif_neg (by simp; omega)]
  rfl
/-- the answer: the node, and whether there is one -/
def downA (o : Option Int) : Int × Bool := match o with
  | some i => (i, true)
  | none => (0, false)
section
variable {d : D}
theorem mem_up (h : WF d) {a b : Int} (ha : hasL d.l a = true) (hb : hasL d.l b = true) {j : Nat} (e : it (parOf d.l) j a = b) : inside d.l a b = true := by
  unfold inside aboveL
  rw [decide_eq_true_eq]
  refine Classical.byContradiction fun hn => ?_
  exact h.tr.not_up (L := idsOf d.l) (fun y hy => has_ids.1 hy) ha hb (by simpa [idsOf] using hn) j e
theorem down_it (h : WF d) : ∀ (r : List Int) (i c : Int), hasL d.l i = true → downL d.l i r = some c → hasL d.l c = true ∧ ∃ j, it (parOf d.l) j c = i
  | [], i, c, hi, hc => by
    rw [down_nil] at hc
    injection hc with hc
    subst hc
    exact ⟨hi, 0, rfl⟩
  | t :: r, i, c, hi, hc => by
    rw [downL] at hc
    split at hc
    · cases hc
    · rename_i hn
      have hm : (kidsOf d.l i)[t.toNat]'(by omega) ∈ kidsOf d.l i := List.getElem_mem _
      obtain ⟨_, h1, h2⟩ := h.tr.kid _ _ hm
      obtain ⟨h3, j, h4⟩ := down_it h r _ c h1 hc
      exact ⟨h3, j + 1, by rw [it_succ, h4, h2]⟩
theorem down_inside (h : WF d) {r : List Int} {c : Int} (hc : downL d.l 1 r = some c) : inside d.l c 1 = true := by
  obtain ⟨h1, j, h2⟩ := down_it h r 1 c h.root hc
  exact mem_up h h1 h.root h2
theorem sub_inside (h : WF d) {f : Nat} {i y : Int} (hi : hasL d.l i = true) (hy : y ∈ sub (kidsOf d.l) f i) : inside d.l y i = true := by
  obtain ⟨j, hj⟩ := h.tr.sub_it f i y hy
  exact mem_up h (h.tr.sub_h f i y hi hy) hi hj
end

/-! ### The parent stands ahead -/
def AheadX (P : Int → Int) (x : Int) (l : List Int) : Prop := ∀ (k : Nat) (h : k < l.length), P l[k] = x ∨ ∃ m, ∃ hm : m < k, l[m]'(by omega) = P l[k]
def Ahead (P : Int → Int) (l : List Int) : Prop := ∀ (k : Nat) (h : k < l.length), 0 < k → ∃ m, ∃ hm : m < k, l[m]'(by omega) = P l[k]
theorem AheadX.nil (P : Int → Int) (x : Int) : AheadX P x [] := fun k h => absurd h (by simp)
theorem AheadX.app {P : Int → Int} {x : Int} {l m : List Int} (hl : AheadX P x l) (hm : AheadX P x m) : AheadX P x (l ++ m) := by
  intro k hk
  rw [List.length_append] at hk
  by_cases h : k < l.length
  · rw [List.getElem_append_left h]
    rcases hl k h with e | ⟨j, hj, e⟩
    · exact .inl e
    · exact .inr ⟨j, hj, by rw [List.getElem_append_left (by omega)]; exact e⟩
  · rw [List.getElem_append_right (by omega)]
    rcases hm (k - l.length) (by omega) with e | ⟨j, hj, e⟩
    · exact .inl e
    · refine .inr ⟨l.length + j, by omega, ?_⟩
      rw [List.getElem_append_right (by omega)]
      simp only [Nat.add_sub_cancel_left]
      exact e
theorem AheadX.cons {P : Int → Int} {x : Int} {l : List Int} (h : AheadX P x l) : Ahead P (x :: l) := by
  intro k hk h0
  obtain ⟨k, rfl⟩ : ∃ j, k = j + 1 := ⟨k - 1, by omega⟩
  rw [List.length_cons] at hk
  rcases h k (by omega) with e | ⟨j, hj, e⟩
  · exact ⟨0, by omega, by simpa using e.symm⟩
  · exact ⟨j + 1, by omega, by simpa using e⟩
theorem Ahead.below {P : Int → Int} {x c : Int} {l : List Int} (h : Ahead P l) (h0 : ∀ hl : 0 < l.length, l[0] = c) (hc : P c = x) : AheadX P x l := by
  intro k hk
  by_cases e : k = 0
  · subst e
    exact .inl (by rw [h0 hk, hc])
  · exact .inr (h k hk (by omega))
theorem sub_ahead {H : Int → Prop} {P : Int → Int} {K : Int → List Int} (h : Tr H P K) : ∀ (f : Nat) (x : Int), Ahead P (sub K f x)
  | 0, x => fun k hk => absurd hk (by simp [sub])
  | f + 1, x => by
    rw [sub]
    refine AheadX.cons ?_
    have : ∀ L : List Int, (∀ c ∈ L, c ∈ K x) → AheadX P x (L.flatMap (sub K f)) := by
      intro L
      induction L with
      | nil => exact fun _ => AheadX.nil P x
      | cons c r ih =>
        intro hL
        rw [List.flatMap_cons]
        refine AheadX.app ?_ (ih (fun d hd => hL d (by simp [hd])))
        refine (sub_ahead h f c).below (fun hl => ?_) (h.kid _ _ (hL c (by simp))).2.2
        cases f with
        | zero => simp [sub] at hl
        | succ f => simp [sub]
    exact this _ (fun c hc => hc)
end Go.Proofs.YtihjdmdafiifhaaGreat.P6
