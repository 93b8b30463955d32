/- The tree of a node, plain: it has no more nodes than the document, and few attributes. No condition. -/
import Derived.Test.YtkagaobelhpojaaGreatM6
import Derived.Test.YtkagaobelhpojaaGreatM16
import Derived.Test.YtkagaobelhpojaaGreatM19
import Derived.Test.YtkagaobelhpojaaGreatM22
import Derived.Test.YtkagaobelhpojaaGreatM30
import Derived.Test.YtkagaobelhpojaaGreatM33
set_option linter.unusedVariables false
set_option linter.unusedSimpArgs false
namespace Go.Proofs.YtkagaobelhpojaaGreat.P8
open Go.RowKit Kd P4 P5

theorem countL_map (g : Int → PT) : ∀ l : List Int, countL (l.map g) = (l.map fun i => countP (g i)).sum
  | [] => by simp [countL]
  | a :: l => by simp [countL, countL_map g l]
theorem treeP_none {l : List Nd} {i : Int} (h : find l i = none) (f : Nat) : treeP l (f + 1) i = .mk ⟨#[]⟩ ⟨#[]⟩ ⟨#[]⟩ [] [] := by rw [treeP, h]
theorem kids_find {l : List Nd} {i : Int} {nd : Nd} (h : find l i = some nd) : kidsOf l i = nd.kids := by unfold kidsOf; rw [h]
theorem treeP_count (l : List Nd) : ∀ (f : Nat) (i : Int), Hb (kidsOf l) f i → countP (treeP l f i) = (sub (kidsOf l) f i).length := by
  intro f
  induction f with
  | zero => intro i h; exact h.elim
  | succ f ih =>
    intro i h
    cases hf : find l i with
    | none =>
      have hk : kidsOf l i = [] := by unfold kidsOf; rw [hf]
      rw [treeP_none hf, sub, hk]
      simp [countP, countL]
    | some nd =>
      rw [treeP, hf, sub, kids_find hf]
      have hk := kids_find hf
      show countP (.mk nd.tag nd.txt nd.key nd.attrs (nd.kids.map (treeP l f))) = _
      rw [countP, countL_map, List.length_cons, List.length_flatMap]
      have : nd.kids.map (fun i => countP (treeP l f i)) = nd.kids.map (fun i => (sub (kidsOf l) f i).length) := List.map_congr_left fun c hc => ih c (h c (by rw [hk]; exact hc))
      rw [this]
theorem treeP_low {l : List Nd} (ha : ∀ x ∈ l, x.attrs.length ≤ 8) : ∀ (f : Nat) (i : Int), lowP (treeP l f i) = true := by
  intro f
  induction f with
  | zero => intro i; simp [treeP, lowP, lowL]
  | succ f ih =>
    intro i
    cases hf : find l i with
    | none => rw [treeP_none hf]; simp [lowP, lowL]
    | some nd =>
      rw [treeP, hf]
      show lowP (.mk nd.tag nd.txt nd.key nd.attrs (nd.kids.map (treeP l f))) = true
      have h8 := ha nd (find_some hf).1
      rw [lowP, lowL_all, Bool.and_eq_true, decide_eq_true_eq, List.all_eq_true]
      refine ⟨by omega, fun k hk => ?_⟩
      obtain ⟨c, _, rfl⟩ := List.mem_map.1 hk
      exact ih c
theorem treeP_all {d : D} (h : WF d) {i : Int} (hi : hasL d.l i = true) : countP (treeP d.l (d.l.length + 1) i) ≤ 200 ∧ lowP (treeP d.l (d.l.length + 1) i) = true := by
  have hb : Hb (kidsOf d.l) (d.l.length + 1) i := by
    have h1 : Hb (kidsOf d.l) ((idsOf d.l).length + 1) i := h.tr.hb_all (L := idsOf d.l) (fun y hy => has_ids.1 hy) (y := i) hi
    simpa [idsOf] using h1
  refine ⟨?_, treeP_low h.att _ _⟩
  rw [treeP_count _ _ _ hb]
  have h1 := nodup_len (sub (kidsOf d.l) (d.l.length + 1) i) (idsOf d.l) (h.tr.sub_nodup _ i hi) (fun z hz => has_ids.1 (h.tr.sub_h _ i z hi hz))
  have h2 := h.len200
  simp only [idsOf, List.length_map] at h1
  omega
end Go.Proofs.YtkagaobelhpojaaGreat.P8

/- Ways through a document, as plain functions: down by places; what is below is inside; each of the nodes below has its parent ahead of it. No condition. -/
namespace Go.Proofs.YtkagaobelhpojaaGreat.P6
open P5

/-- from i on, the child at each place -/
def downL (l : List Nd) : Int → List Int → Option Int
  | i, [] => some i
  | i, t :: r => if h : t < 0 ∨ (kidsOf l i).length ≤ t.toNat then none else downL l ((kidsOf l i)[t.toNat]'(by omega)) r
theorem down_nil (l : List Nd) (i : Int) : downL l i [] = some i := rfl
theorem down_no {l : List Nd} {i t : Int} {r : List Int} (h : t < 0 ∨ (kidsOf l i).length ≤ t.toNat) : downL l i (t :: r) = none := by rw [downL, dif_pos h]
theorem down_yes {l : List Nd} {i : Int} {r : List Int} {m : Nat} (h : m < (kidsOf l i).length) : downL l i ((m : Int) :: r) = downL l (kidsOf l i)[m] r := by
  rw [downL, dif_neg (by simp; omega)]
  rfl
/-- the answer: the node, and whether there is one -/
def downA (o : Option Int) : Int × Bool := match o with
  | some i => (i, true)
  | none => (0, false)
section
variable {d : D}
theorem mem_up (h : WF d) {a b : Int} (ha : hasL d.l a = true) (hb : hasL d.l b = true) {j : Nat} (e : it (parOf d.l) j a = b) : inside d.l a b = true := by
  unfold inside aboveL
  rw [decide_eq_true_eq]
  refine Classical.byContradiction fun hn => ?_
  exact h.tr.not_up (L := idsOf d.l) (fun y hy => has_ids.1 hy) ha hb (by simpa [idsOf] using hn) j e
theorem down_it (h : WF d) : ∀ (r : List Int) (i c : Int), hasL d.l i = true → downL d.l i r = some c → hasL d.l c = true ∧ ∃ j, it (parOf d.l) j c = i
  | [], i, c, hi, hc => by
    rw [down_nil] at hc
    injection hc with hc
    subst hc
    exact ⟨hi, 0, rfl⟩
  | t :: r, i, c, hi, hc => by
    rw [downL] at hc
    split at hc
    · cases hc
    · rename_i hn
      have hm : (kidsOf d.l i)[t.toNat]'(by omega) ∈ kidsOf d.l i := List.getElem_mem _
      obtain ⟨_, h1, h2⟩ := h.tr.kid _ _ hm
      obtain ⟨h3, j, h4⟩ := down_it h r _ c h1 hc
      exact ⟨h3, j + 1, by rw [it_succ, h4, h2]⟩
theorem down_inside (h : WF d) {r : List Int} {c : Int} (hc : downL d.l 1 r = some c) : inside d.l c 1 = true := by
  obtain ⟨h1, j, h2⟩ := down_it h r 1 c h.root hc
  exact mem_up h h1 h.root h2
theorem sub_inside (h : WF d) {f : Nat} {i y : Int} (hi : hasL d.l i = true) (hy : y ∈ sub (kidsOf d.l) f i) : inside d.l y i = true := by
  obtain ⟨j, hj⟩ := h.tr.sub_it f i y hy
  exact mem_up h (h.tr.sub_h f i y hi hy) hi hj
end

/-! ### The parent stands ahead -/
def AheadX (P : Int → Int) (x : Int) (l : List Int) : Prop := ∀ (k : Nat) (h : k < l.length), P l[k] = x ∨ ∃ m, ∃ hm : m < k, l[m]'(by omega) = P l[k]
def Ahead (P : Int → Int) (l : List Int) : Prop := ∀ (k : Nat) (h : k < l.length), 0 < k → ∃ m, ∃ hm : m < k, l[m]'(by omega) = P l[k]
theorem AheadX.nil (P : Int → Int) (x : Int) : AheadX P x [] := fun k h => absurd h (by simp)
theorem AheadX.app {P : Int → Int} {x : Int} {l m : List Int} (hl : AheadX P x l) (hm : AheadX P x m) : AheadX P x (l ++ m) := by
  intro k hk
  rw [List.length_append] at hk
  by_cases h : k < l.length
  · rw [List.getElem_append_left h]
    rcases hl k h with e | ⟨j, hj, e⟩
    · exact .inl e
    · exact .inr ⟨j, hj, by rw [List.getElem_append_left (by omega)]; exact e⟩
  · rw [List.getElem_append_right (by omega)]
    rcases hm (k - l.length) (by omega) with e | ⟨j, hj, e⟩
    · exact .inl e
    · refine .inr ⟨l.length + j, by omega, ?_⟩
      rw [List.getElem_append_right (by omega)]
      simp only [Nat.add_sub_cancel_left]
      exact e
theorem AheadX.cons {P : Int → Int} {x : Int} {l : List Int} (h : AheadX P x l) : Ahead P (x :: l) := by
  intro k hk h0
  obtain ⟨k, rfl⟩ : ∃ j, k = j + 1 := ⟨k - 1, by omega⟩
  rw [List.length_cons] at hk
  rcases h k (by omega) with e | ⟨j, hj, e⟩
  · exact ⟨0, by omega, by simpa using e.symm⟩
  · exact ⟨j + 1, by omega, by simpa using e⟩
theorem Ahead.below {P : Int → Int} {x c : Int} {l : List Int} (h : Ahead P l) (h0 : ∀ hl : 0 < l.length, l[0] = c) (hc : P c = x) : AheadX P x l := by
  intro k hk
  by_cases e : k = 0
  · subst e
    exact .inl (by rw [h0 hk, hc])
  · exact .inr (h k hk (by omega))
theorem sub_ahead {H : Int → Prop} {P : Int → Int} {K : Int → List Int} (h : Tr H P K) : ∀ (f : Nat) (x : Int), Ahead P (sub K f x)
  | 0, x => fun k hk => absurd hk (by simp [sub])
  | f + 1, x => by
    rw [sub]
    refine AheadX.cons ?_
    have : ∀ L : List Int, (∀ c ∈ L, c ∈ K x) → AheadX P x (L.flatMap (sub K f)) := by
      intro L
      induction L with
      | nil => exact fun _ => AheadX.nil P x
      | cons c r ih =>
        intro hL
        rw [List.flatMap_cons]
        refine AheadX.app ?_ (ih (fun d hd => hL d (by simp [hd])))
        refine (sub_ahead h f c).below (fun hl => ?_) (h.kid _ _ (hL c (by simp))).2.2
        cases f with
        | zero => simp [sub] at hl
        | succ f => simp [sub]
    exact this _ (fun c hc => hc)
end Go.Proofs.YtkagaobelhpojaaGreat.P6

/- The program's ways up: node, Up, Contains, Inside. -/
namespace Go.Proofs.YtkagaobelhpojaaGreat.P6
open Go.RowKit Kd P4 P5
variable {B p : Nat} {x : Dx}
def NoNode (w : World) (e : Ending) (w' : World) : Prop := e = .returned (.tuple #[.agg #[.int .i64 0, .int .i64 0, .string ⟨#[]⟩, .string ⟨#[]⟩, .string ⟨#[]⟩, .slice none 0 0, .slice none 0 0, .int .i64 0], .bool false]) ∧ Below w.heap.size w w'
/-! ### Contains -/
set_option maxHeartbeats 400000 in
theorem index_no (l : List Int) (t : Int) (A : Option Addr) (n c : Nat) (w : World) (hn : l.length = n) (hn2 : n ≤ 1000000) (ht : t ∉ l) (H : kI.Holds w w.heap.size A l) :
    Calls Tryz.prog 81 #[.slice A n c, .int .i64 t] w fun e w' => e = .returned (.int .i64 (-1)) ∧ w = w' := by
  have HH := Lib.hid H
  have HN := Lib.hid hn
  have HT := Lib.hid ht
  clear H hn ht
  go_enter Tryz.func81, Tryz.ntmps81
  go_wp2_with fail
  go_loop [8] (fun i => ∃ k : Nat, k ≤ n ∧ i = .int .i64 k) (fun i => n - (intOf i).toNat)
  case atStart => exact ⟨0, by omega, rfl⟩
  case round =>
    obtain ⟨k, hk, rfl⟩ := hrel
    by_cases hlt : k < n
    · have hkl : k < l.length := by have := HN.out; omega
      obtain ⟨b, o, rfl, hb, hc⟩ := cell_int HH.out hkl
      have hq : (t == l[k]) = false := beq_eq_false_iff_ne.2 (fun e => HT.out (e ▸ List.getElem_mem hkl))
      go_wp2
      go_round
      case rel => exact ⟨k + 1, by omega, by go_num⟩
      case measure => simp [intOf]; omega
    · go_wp2
      go_ret
      exact ⟨rfl, rfl⟩
theorem idx_mem {l : List Int} {t : Int} (h : t ∈ l) : (0 : Int) ≤ (idxA l t : Int) := by omega
/-! ### A node in a block of its own -/
/-- the block holds the node of that identity, if there is one; its children lie in memory that is new since C -/
structure Box (w : World) (C g : Nat) (l : List Nd) (cur : Int) : Prop where
  ge : C ≤ g
  at_ : ∃ nd A n c A2 n2 c2, NdB w g nd A n c A2 n2 c2 ∧ kI.Own w C (.slice A2 n2 c2) nd.kids ∧ (hasL l cur = true → nd.id = cur ∧ nd.par = parOf l cur ∧ nd.kids = kidsOf l cur)
theorem Box.below {w w' : World} {C g : Nat} {l : List Nd} {cur : Int} (h : Box w C g l cur) (hb : Below w.heap.size w w') : Box w' C g l cur := by
  obtain ⟨nd, A, n, c, A2, n2, c2, h1, h2, h3⟩ := h.at_
  exact ⟨h.ge, nd, A, n, c, A2, n2, c2, h1.below hb h1.lt, h2.below hb (Nat.le_refl _), h3⟩
theorem wf_kids (hwf : WF x.d) {w : World} (h : Dc w B p x) {k : Nat} (hk : k < x.rs.length) {i : Int} (hy : x.rs[k].nd.id = i) : x.rs[k].nd.id = i ∧ x.rs[k].nd.par = parOf x.l i ∧ x.rs[k].nd.kids = kidsOf x.l i ∧ x.rs[k].nd.attrs.length ≤ 1000 ∧ x.rs[k].nd.kids.length ≤ 1000 := by
  have h1 := tag_at h hk hy
  have h2 := nd_kids h hwf hk
  exact ⟨hy, h1.2.1.symm, h1.2.2.symm, h2.1, h2.2.1⟩
def zNd : Nd := ⟨0, 0, ⟨#[]⟩, ⟨#[]⟩, ⟨#[]⟩, [], [], 0⟩

/-! ### Up -/
def UpRel (w : World) (x : Dx) (i : Int) (N : Nat) (s5 s6 s7 : Value) (wr : World) : Prop := ∃ (g j : Nat) (ok : Bool) (acc : List Int), s6 = .pointer (some ⟨g, 0, none⟩) ∧ s7 = .bool ok ∧ acc.length = j ∧ j ≤ N + 1 ∧ Hid (ok = hasL x.l (it (parOf x.l) j i)) ∧ Hid (Box wr w.heap.size g x.l (it (parOf x.l) j i)) ∧ Hid (kI.Own wr w.heap.size s5 acc) ∧ Hid (aboveL x.l i = acc ++ up (hasL x.l) (parOf x.l) (N + 1 - j) (it (parOf x.l) j i)) ∧ Hid (0 < j → hasL x.l i = true) ∧ Hid (Below w.heap.size w wr)
/-! ### Inside -/
end Go.Proofs.YtkagaobelhpojaaGreat.P6

/- The program's ways down: appendAll, All, At. -/
namespace Go.Proofs.YtkagaobelhpojaaGreat.P6
open Go.RowKit Kd P4 P5
variable {B p : Nat} {x : Dx}
/-! ### All -/
def Apd (w : World) (C : Nat) (v : Value) (l : List Int) (e : Ending) (w' : World) : Prop :=
  ∃ A n c, e = .returned (.slice A n c) ∧ kI.Own w' C (.slice A n c) l ∧ But (fun k => v.ownBlock = some k) w w' ∧ ∀ g, (Value.slice A n c).ownBlock = some g → v.ownBlock = some g ∨ w.heap.size ≤ g
def ApRel (w : World) (C : Nat) (v kv : Value) (acc kids : List Int) (i : Int) (K : Int → List Int) (f nk : Nat) (s0 s27 : Value) (wr : World) : Prop :=
  ∃ (j : Nat) (A : Option Addr) (n c : Nat), s27 = .int .i64 j ∧ j ≤ nk ∧ s0 = .slice A n c ∧ Hid (kI.Own wr C s0 (acc ++ i :: upto K f i j)) ∧ Hid (But (fun k => v.ownBlock = some k) w wr) ∧ Hid (∀ g, s0.ownBlock = some g → v.ownBlock = some g ∨ w.heap.size ≤ g) ∧ Hid (kI.Own wr w.heap.size kv kids) ∧ Hid (Apart s0 kv)
theorem intA {w : World} {C : Nat} {v : Value} {l : List Int} (h : kI.Own w C v l) : NoA w (fun k => v.ownBlock = some k) := fun k cur fr hk hc => by
  obtain ⟨d, hd⟩ := h.ty hk
  exact heap_ne hd hc (by decide) rfl
def allL (l : List Nd) (i : Int) : List Int := if hasL l i = true then below l i else []
/-! ### At -/
def AtRel (w : World) (x : Dx) (ps : List Int) (g : Nat) (s7 s17 : Value) (wr : World) : Prop :=
  ∃ (j : Nat) (cur : Int), s17 = .int .i64 j ∧ s7 = .bool true ∧ j ≤ ps.length ∧ Hid (hasL x.l cur = true) ∧ Hid (Box wr w.heap.size g x.l cur) ∧ Hid (downL x.l 1 ps = downL x.l cur (ps.drop j)) ∧ Hid (Below w.heap.size w wr)
def Downed (w : World) (r : Int × Bool) (e : Ending) (w' : World) : Prop := e = .returned (.tuple #[.int .i64 r.1, .bool r.2]) ∧ Below w.heap.size w w'
theorem downed_none {w w' : World} {o : Option Int} (h : o = none) (hb : Below w.heap.size w w') : Downed w (downA o) (.returned (.tuple #[.int .i64 0, .bool false])) w' := by subst h; exact ⟨rfl, hb⟩
theorem downed_some {w w' : World} {o : Option Int} {i : Int} (h : o = some i) (hb : Below w.heap.size w w') : Downed w (downA o) (.returned (.tuple #[.int .i64 i, .bool true])) w' := by subst h; exact ⟨rfl, hb⟩
end Go.Proofs.YtkagaobelhpojaaGreat.P6

/- The reference: down by places; all below what isn't there. -/
namespace Go.Proofs.YtkagaobelhpojaaGreat.P6
open Go.RowKit Kd P4 P5
variable {B q : Nat} {y : Rx}
set_option maxHeartbeats 400000 in
theorem rall_any (i : Int) (w : World) (hwf : WF y.d) (h : Rf w B q y) : Calls Tryz.prog 87 #[.pointer (some ⟨q, 0, none⟩), .int .i64 i] w (GotInts w (allL y.l i)) := by
  have ha : Asc y.l := hwf.asc
  have hl : y.rs.length ≤ 1000 := by have := hwf.len200; rw [show y.d.l = y.l from rfl, rl_len] at this; omega
  cases hi : hasL y.l i with
  | true =>
    have e : allL y.l i = sub (kidsOf y.l) (y.l.length + 1) i := by unfold allL; rw [if_pos hi]; rfl
    rw [e]
    have hb : Hb (kidsOf y.l) (y.l.length + 1) i := by
      have h1 : Hb (kidsOf y.l) ((idsOf y.l).length + 1) i := hwf.tr.hb_all (L := idsOf y.l) (fun y hy => has_ids.1 hy) (y := i) hi
      simpa [idsOf] using h1
    refine all_any hwf.tr ha hl (fun f c hc => ?_) _ i w hb hi h
    have h1 := nodup_len (sub (kidsOf y.l) f c) (idsOf y.l) (hwf.tr.sub_nodup f c hc) (fun z hz => has_ids.1 (hwf.tr.sub_h f c z hc hz))
    simp only [idsOf, List.length_map, rl_len] at h1
    omega
  | false =>
    have e : allL y.l i = [] := by unfold allL; rw [if_neg (by rw [hi]; simp)]
    rw [e]
    have HI := Lib.hid hi
    have H := Lib.hid h
    clear hi h ha hwf e
    go_enter Tryz.func87, Tryz.ntmps87
    go_wp2_with fail
    refine (at_no i w hl HI.out H.out).mono ?_
    rintro e w' ⟨rfl, rfl⟩
    go_wp2_with fail
    go_ret
    exact ⟨none, 0, 0, rfl, Kind.Own.nil _ _ _, Below.refl _ _⟩
end Go.Proofs.YtkagaobelhpojaaGreat.P6

/- Few, at any bound. No condition but that it is small. -/
namespace Go.Proofs.YtkagaobelhpojaaGreat.P5
open Go.RowKit Kd P4
variable {B p : Nat} {x : Dx}
def FewM (most : Nat) (w : World) (l : List RE) (e : Ending) (w' : World) : Prop :=
  ∃ f : Int, e = .returned (.int .i64 f) ∧ (f = 0 ∨ f = 1 ∧ l.length ≤ most ∧ ∀ r ∈ l, r.va.n ≤ 20) ∧ Below w.heap.size w w'
theorem fewM_no {most : Nat} {w w' : World} {l : List RE} (hb : Below w.heap.size w w') : FewM most w l (.returned (.int .i64 0)) w' := ⟨0, rfl, .inl rfl, hb⟩
set_option maxHeartbeats 1000000 in
theorem fewM_any (most : Nat) (hmost : most ≤ 1000000) (l : List RE) (A : Option Addr) (n c : Nat) (w : World) (hn : l.length = n) (hm : n ≤ maxLen) (H : kE.Holds w w.heap.size A l) (hd : ∀ r ∈ l, DeedOk w r) :
    Calls Tryz.prog 5 #[.slice A n c, .int .i64 most] w (FewM most w l) := by
  unfold maxLen at hm
  have HH := Lib.hid H
  have HN := Lib.hid hn
  have HD := Lib.hid hd
  clear H hn hd
  go_enter Tryz.func5, Tryz.ntmps5
  go_wp2_with fail
  go_loopw [5] (fun i wr => ∃ k : Nat, k ≤ n ∧ k ≤ most ∧ i = .int .i64 k ∧ Hid (∀ j (h : j < l.length), j < k → l[j].va.n ≤ 20) ∧ Hid (Below w.heap.size w wr)) (fun i _ => n - (intOf i).toNat)
  case atStart => exact ⟨0, by omega, by omega, rfl, Lib.hid (fun j _ h => by omega), Lib.hid (Below.refl _ _)⟩
  case round =>
    obtain ⟨k, hk, hkM, rfl, HS, HW⟩ := hrel
    by_cases hlt : k < n
    · by_cases hM : k < most
      · have hkl : k < l.length := by have := HN.out; omega
        obtain ⟨b, o, rfl, hb, g0, g1, g2, g3, g4, g5, g6, g7, g8, g9, g10, g11⟩ := cell_of_deeds (HH.out.on HW.out) hkl
        have hdk := (HD.out _ (List.getElem_mem hkl)).below HW.out
        obtain ⟨al, a1, a2, a3, a4, a5, a6⟩ := hdk.at_
        have hz := HW.out.size
        have HL : Hid (l[k].va.n ≤ 20 → ∀ j (h : j < l.length), j < k + 1 → l[j].va.n ≤ 20) := Lib.hid (fun h20 j hj hjk => by
          by_cases e : j = k
          · subst e; exact h20
          · exact HS.out j hj (by omega))
        generalize l[k] = d at g0 g1 g2 g3 g4 g5 g6 g7 g8 g9 g10 g11 hdk a1 a2 a3 a4 a5 HL
        obtain ⟨what, next, op, rid, par, bef, tag, txt, key, ⟨vA, vn, vc⟩, id, dn⟩ := d
        simp only at g0 g1 g2 g3 g4 g5 g6 g7 g8 g9 g10 g11 a1 a2 a3 a4 a5 HL
        have t1 := hdk.tag
        have t2 := hdk.txt
        have t3 := hdk.key
        simp only at t1 t2 t3
        unfold maxLen at a3 t1 t2 t3
        have A1 := Lib.hid a1
        have A5 := Lib.hid a5
        have BW : Hid (Below w.heap.size w (wr.alloc (.cells #[.int .i64 op, .int .i64 rid, .int .i64 par, .int .i64 bef, .string tag, .string txt, .string key, .slice vA vn vc] 57))) := Lib.hid (HW.out.alloc hz _)
        clear hdk a1 a4 a5 a6
        by_cases h1 : 100 < tag.size
        · go_wp2_with fail
          go_ret
          exact fewM_no BW.out
        · by_cases h2 : 100 < txt.size
          · go_wp2_with fail
            go_ret
            exact fewM_no BW.out
          · by_cases h3 : 100 < key.size
            · go_wp2_with fail
              go_ret
              exact fewM_no BW.out
            · cases hf : P3.fewA al with
              | false =>
                have HF : Hid (P3.fewN al = 0) := Lib.hid (by unfold P3.fewN; rw [hf]; rfl)
                clear hf
                go_wp2_with fail
                refine (P3.few_any al vA vn vc _ A1.out (by omega) (p3holds (A5.out.on ((Below.refl _ _).alloc (Nat.le_refl _) _)))).mono ?_
                rintro e w' ⟨rfl, rfl⟩
                rw [HF.out]
                go_wp2_with fail
                go_ret
                exact fewM_no BW.out
              | true =>
                have HF : Hid (P3.fewN al = 1) := Lib.hid (by unfold P3.fewN; rw [hf]; rfl)
                have h20 : vn ≤ 20 := by unfold P3.fewA at hf; simp at hf; have := A1.out; omega
                clear hf
                go_wp2_with fail
                refine (P3.few_any al vA vn vc _ A1.out (by omega) (p3holds (A5.out.on ((Below.refl _ _).alloc (Nat.le_refl _) _)))).mono ?_
                rintro e w' ⟨rfl, rfl⟩
                rw [HF.out]
                go_wp2_with fail
                go_roundw
                case rel => exact ⟨k + 1, by omega, by omega, by go_num, Lib.hid (HL.out h20), BW⟩
                case measure => simp [intOf]; omega
      · obtain rfl : k = most := by omega
        go_wp2_with fail
        go_ret
        exact fewM_no HW.out
    · obtain rfl : k = n := by omega
      go_wp2_with fail
      go_ret
      refine ⟨1, rfl, .inr ⟨rfl, by rw [HN.out]; exact hkM, fun r hr => ?_⟩, HW.out⟩
      obtain ⟨j, hj, rfl⟩ := List.mem_iff_getElem.1 hr
      exact HS.out j hj (by have := HN.out; omega)
end Go.Proofs.YtkagaobelhpojaaGreat.P5
