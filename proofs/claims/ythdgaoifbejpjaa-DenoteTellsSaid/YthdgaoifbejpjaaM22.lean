/- What a program comes to is of texts and rows that aren't too long. No condition but those stated. -/
import Derived.Test.YthdgaoifbejpjaaM11
import Derived.Test.YthdgaoifbejpjaaM12
import Derived.Test.YthdgaoifbejpjaaM13
import Derived.Test.YthdgaoifbejpjaaM19
import Derived.Test.YthdgaoifbejpjaaM21
set_option linter.unusedVariables false
set_option linter.unusedSimpArgs false
set_option linter.unusedVariables false
set_option linter.unusedSimpArgs false
namespace Go.Proofs.Ythdgaoifbejpjaa.P17
open Go.RowKit Kd P4 P5 P11 P12 P13 P14 P16

/-- places that stand once each are no more than there are -/
theorem places_len : ∀ (n : Nat) (L : List Int), (∀ x ∈ L, 0 ≤ x ∧ x < (n : Int)) → (∀ k, k < n → L.count (k : Int) ≤ 1) → L.length ≤ n
  | 0, L, h, _ => by
    cases L with
    | nil => simp
    | cons x r => have := h x (by simp); omega
  | n + 1, L, h, hc => by
    have h1 := List.length_eq_countP_add_countP (fun x => x == ((n : Nat) : Int)) (l := L)
    have h2 : L.countP (fun x => x == ((n : Nat) : Int)) ≤ 1 := hc n (by omega)
    have h3 := places_len n (L.filter (fun a => decide ¬((a == ((n : Nat) : Int)) = true))) (fun x hx => by
      obtain ⟨hm, hp⟩ := List.mem_filter.1 hx
      have := h x hm
      simp at hp
      omega) (fun k hk => Nat.le_trans (List.Sublist.count_le _ List.filter_sublist) (hc k (by omega)))
    rw [← List.countP_eq_length_filter] at h3
    omega
theorem kept_len (old : List Ol) (ws : List PW) : (foldM old ws).kept.length ≤ old.length :=
  places_len _ _ (once_fold old ws).kept (fun k hk => by have := (once_fold old ws).one k hk; omega)
theorem okA_mem {l : List P3.At} (h : P10.okA l = true) {a : P3.At} (ha : a ∈ l) : a.nm.size ≤ 100000 ∧ a.vl.size ≤ 100000 := by
  unfold P10.okA at h
  rw [Bool.and_eq_true, List.all_eq_true] at h
  have := h.2 a ha
  simpa using this
theorem okA_mk {l : List P3.At} (h1 : l.length ≤ 100000) (h2 : ∀ a ∈ l, a.nm.size ≤ 100000 ∧ a.vl.size ≤ 100000) : P10.okA l = true := by
  unfold P10.okA
  rw [Bool.and_eq_true, List.all_eq_true]
  exact ⟨by simpa using h1, fun a ha => by simpa using h2 a ha⟩
theorem okA_join {l m : List P3.At} (hl : P10.okA l = true) (hm : P10.okA m = true) : P10.okA (P3.joinA l m) = true := by
  refine okA_mk (by unfold P3.joinA; rw [List.length_take]; omega) (fun a ha => ?_)
  unfold P3.joinA at ha
  rcases P3.addA_mem (List.mem_of_mem_take ha) with h | h
  · exact okA_mem hl (List.mem_filter.1 h).1
  · exact okA_mem hm (List.mem_filter.1 h).1
theorem okA_new {l : List P3.At} (hl : P10.okA l = true) : P10.okA (P3.newA l) = true := by
  have h1 : (P3.thoseA l true).length + (P3.thoseA l false).length ≤ l.length := by
    have := List.length_eq_countP_add_countP (fun a : P3.At => a.st == true) (l := l)
    unfold P3.thoseA
    rw [← List.countP_eq_length_filter, ← List.countP_eq_length_filter]
    have e : (fun a : P3.At => a.st == false) = (fun a : P3.At => decide ¬((a.st == true) = true)) := by
      funext a
      cases a.st <;> rfl
    rw [e]
    omega
  have h2 : l.length ≤ 100000 := by
    unfold P10.okA at hl
    rw [Bool.and_eq_true] at hl
    simpa using hl.1
  refine okA_mk (by unfold P3.newA; rw [List.length_append]; omega) (fun a ha => ?_)
  unfold P3.newA at ha
  rcases List.mem_append.1 ha with h | h
  · exact okA_mem hl (List.mem_filter.1 h).1
  · exact okA_mem hl (List.mem_filter.1 h).1
theorem okA_want {l : List P3.At} (h1 : l.length ≤ 150) (h : ∀ a ∈ l, mayI (atI a) = true) : P10.okA l = true := by
  refine okA_mk (by omega) (fun a ha => ?_)
  have h2 := may_small (h a ha)
  have e1 : (atI a).a = a.nm := rfl
  have e2 : (atI a).b = a.vl := rfl
  rw [e1, e2] at h2
  omega
theorem okL_mem {l : List P8.PT} (h : P10.okL l = true) {t : P8.PT} (ht : t ∈ l) : P10.okP t = true := by
  rw [P10.okL_all, List.all_eq_true] at h
  exact h t ht
theorem okP_parts {t : P8.PT} (h : P10.okP t = true) : t.tag.size ≤ 100000 ∧ t.key.size ≤ 100000 ∧ P10.okA t.attrs = true ∧ P10.okL t.kids = true := by
  obtain ⟨tag, txt, key, attrs, kids⟩ := t
  rw [P10.okP] at h
  simp only [Bool.and_eq_true, decide_eq_true_eq] at h
  exact ⟨h.1.1.1.1.1, h.1.1.1.2, h.1.1.2, h.2⟩
def PieceOk (w : PW) : Prop := WfW w → wtW w ≤ 150 → ∀ (a : Int) (kept : List Int) (old : List P8.PT), P10.okL old = true → P8.countL old ≤ 200 → (a < old.length) → (∀ k ∈ kept, 0 ≤ k ∧ k < (old.length : Int)) → P10.okL (pieceW w a kept old) = true
theorem goL_ok : ∀ {ws : List PW}, (∀ w ∈ ws, PieceOk w) → (∀ w ∈ ws, WfW w) → wtL ws ≤ 150 → ∀ (T kept : List Int) (old : List P8.PT), P10.okL old = true → P8.countL old ≤ 200 → (∀ a ∈ T, a < (old.length : Int)) → (∀ k ∈ kept, 0 ≤ k ∧ k < (old.length : Int)) → P10.okL (goL ws T kept old) = true
  | [], _, _, _, T, kept, old, _, _, _, _ => by simp [goL, P10.okL]
  | w :: ws, hp, hw, hwt, T, kept, old, ho, hc, hT, hk => by
    rw [wtL] at hwt
    have h1 := hp w (by simp) (hw w (by simp)) (by omega) (T.headD (-1)) kept old ho hc (by
      cases T with
      | nil => simp only [List.headD_nil]; omega
      | cons a r => exact hT a (by simp)) hk
    have h2 := goL_ok (ws := ws) (fun x hx => hp x (by simp [hx])) (fun x hx => hw x (by simp [hx])) (by omega) T.tail kept old ho hc (fun a ha => hT a (List.mem_of_mem_tail ha)) hk
    rw [goL, P10.okL_all, List.all_append, ← P10.okL_all, ← P10.okL_all, h1, h2]
    rfl
theorem denP_ok {ws : List PW} (hp : ∀ w ∈ ws, PieceOk w) (hw : ∀ w ∈ ws, WfW w) (hwt : wtL ws ≤ 150) {old : List P8.PT} (ho : P10.okL old = true) (hc : P8.countL old ≤ 200) : P10.okL (denP ws old) = true ∧ (denP ws old).length ≤ 100000 := by
  have hone := once_fold (old.map olP) ws
  have hlen : (old.map olP).length = old.length := List.length_map ..
  refine ⟨goL_ok hp hw hwt _ _ _ ho hc (fun a ha => by have := hone.take a ha; rw [hlen] at this; omega) (fun k hk => by have := hone.kept k hk; rw [hlen] at this; omega), ?_⟩
  have h1 := goL_len ws (foldM (old.map olP) ws).take (foldM (old.map olP) ws).kept old
  have h2 := kept_len (old.map olP) ws
  have h3 := wtL_len ws
  have h4 := P8.len_le_count old
  rw [hlen] at h2
  have h5 : ws.length * (1 + (foldM (old.map olP) ws).kept.length) ≤ 150 * 201 := Nat.mul_le_mul (by omega) (by omega)
  unfold denP
  omega
theorem at_ok {old : List P8.PT} (ho : P10.okL old = true) {k : Nat} (hk : k < old.length) : P10.okP (atP old k) = true := by
  rw [atP_at hk]
  exact okL_mem ho (List.getElem_mem hk)
theorem piece_ok (w : PW) : PieceOk w := by
  induction w using PW.ind with
  | h kind tag key txt attrs kids ih =>
    intro hwf hwt a kept old ho hc ha hkept
    rw [wtW] at hwt
    have elem : kind = 1 → tag.size ≤ 60 → key.size ≤ 60 → P10.okA attrs = true → (∀ k ∈ kids, WfW k) → P10.okL (pieceW (.mk kind tag key txt attrs kids) a kept old) = true := by
      intro hk1 ht hky hA hks
      have hz : z0.size ≤ 100000 := by decide
      by_cases h0 : 0 ≤ a
      · rw [piece_take hk1 h0]
        have hx : a.toNat < old.length := by omega
        have hp := okP_parts (at_ok ho hx)
        have hcnt : P8.countL (atP old a.toNat).kids ≤ 200 := by
          have h1 := P8.countL_at hx
          rw [← atP_at hx] at h1
          have h2 : P8.countP (atP old a.toNat) = P8.countL (atP old a.toNat).kids + 1 := by
            generalize atP old a.toNat = t
            obtain ⟨_, _, _, _, _⟩ := t
            rw [P8.countP]
            rfl
          omega
        have hd := denP_ok (ws := kids) (fun k hk => ih k hk) hks (by omega) hp.2.2.2 hcnt
        simp only [P10.okL, P10.okP, hd.1, okA_join hp.2.2.1 hA, Bool.and_true, Bool.and_eq_true, decide_eq_true_eq]
        exact ⟨⟨⟨by omega, hz⟩, by omega⟩, hd.2⟩
      · rw [piece_new hk1 h0]
        have hd := denP_ok (ws := kids) (fun k hk => ih k hk) hks (by omega) (old := []) (by simp [P10.okL]) (by simp [P8.countL])
        simp only [P10.okL, P10.okP, hd.1, okA_new hA, Bool.and_true, Bool.and_eq_true, decide_eq_true_eq]
        exact ⟨⟨⟨by omega, hz⟩, by omega⟩, hd.2⟩
    cases hwf with
    | el hm hat hks =>
      have hs := may_small hm
      exact elem rfl hs.1 hs.2.1 (okA_want (by omega) hat) hks
    | vo hm hat =>
      have hs := may_small hm
      exact elem rfl hs.1 hs.2.1 (okA_want (by omega) hat) (by intro k hk; cases hk)
    | tx hm =>
      have hs := may_small hm
      rw [piece_text]
      have hz : z0.size ≤ 100000 := by decide
      simp only [P10.okL, P10.okP, P10.okA, List.length_nil, List.all_nil, Bool.and_true, Bool.and_eq_true, decide_eq_true_eq]
      have : txt.size ≤ 60 := hs.1
      exact ⟨⟨⟨⟨hz, by omega⟩, hz⟩, by omega⟩, by omega⟩
    | nd =>
      rw [piece_node]
      split
      · simp only [P10.okL, Bool.and_true]
        exact at_ok ho (by omega)
      · simp [P10.okL]
    | al =>
      rw [piece_all, P10.okL_all, List.all_eq_true]
      intro t ht
      obtain ⟨k, hk, rfl⟩ := List.mem_map.1 ht
      have := hkept k hk
      exact at_ok ho (by omega)
theorem den_ok {ws : List PW} (hw : ∀ w ∈ ws, WfW w) (hwt : wtL ws ≤ 150) {old : List P8.PT} (ho : P10.okL old = true) (hc : P8.countL old ≤ 200) : P10.okL (denP ws old) = true ∧ (denP ws old).length ≤ 100000 := denP_ok (fun w _ => piece_ok w) hw hwt ho hc
end Go.Proofs.Ythdgaoifbejpjaa.P17

/- In a program that may be what keeps all stands last, at each place. No condition. -/
set_option linter.unusedVariables false
set_option linter.unusedSimpArgs false
namespace Go.Proofs.Ythdgaoifbejpjaa.P20
open P5 P11 P12 P13 P14 P16

/-- what keeps all stands last, at each place -/
def LastK (ws : List PW) : Prop := ∀ i (h : i < ws.length), ws[i].kind = 4 → i + 1 = ws.length
inductive LastW : PW → Prop
  | mk {kind : Int} {tag key txt : ByteArray} {attrs : List P3.At} {kids : List PW} (h : LastK kids) (ks : ∀ k ∈ kids, LastW k) : LastW (.mk kind tag key txt attrs kids)
theorem LastW.last {x : PW} (h : LastW x) : LastK x.kids := by cases h; assumption
theorem LastW.sub {x : PW} (h : LastW x) : ∀ k ∈ x.kids, LastW k := by cases h; assumption
structure LastP (ws : List PW) : Prop where
  last : LastK ws
  sub : ∀ w ∈ ws, LastW w

theorem places_app {l : List In} : ∀ (m : List In) {a r : List In}, l = a ++ (m ++ r) → placesK l (a.length + m.length) = m.foldl stepP (placesK l a.length)
  | [], a, r, _ => by simp
  | x :: m, a, r, h => by
    have hk : a.length < l.length := by rw [h]; simp
    have hx : l[a.length] = x := by
      have : l[a.length]? = some x := by rw [h, List.getElem?_append_right (Nat.le_refl _), Nat.sub_self]; rfl
      rw [List.getElem?_eq_getElem hk] at this
      injection this
    have ih := places_app (l := l) m (a := a ++ [x]) (r := r) (by rw [h]; simp)
    have e1 : placesK l (a ++ [x]).length = stepP (placesK l a.length) x := by
      rw [List.length_append, List.length_singleton, placesK_step hk, hx]
    rw [List.foldl_cons, ← e1, ← ih]
    congr 1
    simp
    omega
theorem step_one {S : List (List In)} {x : In} (h1 : x.op ≠ 1) (h2 : x.op ≠ 2) : stepP S x = S.dropLast ++ [lastP S ++ [x]] := by
  rw [stepP, if_neg h1, if_neg h2]
  rfl
theorem lastP_snoc (S : List (List In)) (t : List In) : lastP (S ++ [t]) = t := by simp [lastP]
theorem drop_snoc (S : List (List In)) (t : List In) : (S ++ [t]).dropLast = S := by simp
/-- instructions that open and close none -/
theorem flat_places : ∀ (m : List In) {S : List (List In)}, S ≠ [] → (∀ x ∈ m, x.op ≠ 1 ∧ x.op ≠ 2) → m.foldl stepP S = S.dropLast ++ [lastP S ++ m]
  | [], S, hS, _ => by
    rw [List.foldl_nil, List.append_nil]
    obtain ⟨A, t, rfl⟩ : ∃ A t, S = A ++ [t] := by
      rcases List.eq_nil_or_concat S with e | ⟨A, t, e⟩
      · exact absurd e hS
      · exact ⟨A, t, by rw [e, List.concat_eq_append]⟩
    rw [drop_snoc, lastP_snoc]
  | x :: m, S, hS, h => by
    rw [List.foldl_cons, step_one (h x (by simp)).1 (h x (by simp)).2, flat_places m (by simp) (fun y hy => h y (by simp [hy])), drop_snoc, lastP_snoc, List.append_assoc]
    rfl
/-- of one that is wanted: one place as before, with more -/
def LvlP (m : List In) : Prop := ∀ S : List (List In), S ≠ [] → ∃ tops, m.foldl stepP S = S.dropLast ++ [lastP S ++ tops]
theorem lvlP_list : ∀ {ws : List PW}, (∀ w ∈ ws, LvlP (backW w)) → LvlP (backL ws)
  | [], _, S, hS => ⟨[], by rw [backL, flat_places [] hS (by simp)]⟩
  | w :: ws, h, S, hS => by
    obtain ⟨t1, e1⟩ := h w (by simp) S hS
    obtain ⟨t2, e2⟩ := lvlP_list (ws := ws) (fun w' h' => h w' (by simp [h'])) (S.dropLast ++ [lastP S ++ t1]) (by simp)
    exact ⟨t1 ++ t2, by rw [backL, List.foldl_append, e1, e2, drop_snoc, lastP_snoc, List.append_assoc]⟩
theorem atI_op (a : P3.At) : (atI a).op ≠ 1 ∧ (atI a).op ≠ 2 := by cases h : a.st <;> simp [atI, h]
theorem lvlP_w (e : PW) : WfW e → LvlP (backW e) := by
  induction e using PW.ind with
  | h kind tag key txt attrs kids ih =>
    intro hw S hS
    cases hw with
    | el hm ha hk =>
      rw [back_open (may_open hm), List.foldl_cons, List.foldl_append, List.foldl_append]
      have e1 : stepP S ⟨1, tag, key⟩ = (S.dropLast ++ [lastP S ++ [⟨1, tag, key⟩]]) ++ [[]] := by
        rw [stepP, if_pos rfl]
        simp [lastP]
      rw [e1, flat_places (attrs.map atI) (by simp) (fun x hx => by obtain ⟨a, _, rfl⟩ := List.mem_map.1 hx; exact atI_op a), drop_snoc, lastP_snoc]
      obtain ⟨t, e2⟩ := lvlP_list (ws := kids) (fun k hk' => ih k hk' (hk k hk')) (S.dropLast ++ [lastP S ++ [⟨1, tag, key⟩]] ++ [[] ++ attrs.map atI]) (by simp)
      rw [e2, drop_snoc, lastP_snoc]
      refine ⟨[⟨1, tag, key⟩], ?_⟩
      rw [List.foldl_cons, List.foldl_nil, stepP, if_neg (by decide), if_pos rfl, drop_snoc]
    | vo hm ha =>
      rw [back_void (may_void hm)]
      exact ⟨_, flat_places _ hS (fun x hx => by
        rcases List.mem_cons.1 hx with rfl | hx
        · exact ⟨show (3 : Int) ≠ 1 by decide, show (3 : Int) ≠ 2 by decide⟩
        · obtain ⟨a, _, rfl⟩ := List.mem_map.1 hx; exact atI_op a)⟩
    | tx hm => exact ⟨_, flat_places _ hS (fun x hx => by simp [backW] at hx; subst hx; exact ⟨show (4 : Int) ≠ 1 by decide, show (4 : Int) ≠ 2 by decide⟩)⟩
    | nd => exact ⟨_, flat_places _ hS (fun x hx => by simp [backW] at hx; subst hx; exact ⟨show (8 : Int) ≠ 1 by decide, show (8 : Int) ≠ 2 by decide⟩)⟩
    | al => exact ⟨_, flat_places _ hS (fun x hx => by simp [backW] at hx; subst hx; exact ⟨show (7 : Int) ≠ 1 by decide, show (7 : Int) ≠ 2 by decide⟩)⟩
theorem places_ne {l : List In} {k : Nat} (hk : k ≤ l.length) (hf : firstW l k = 0) : placesK l k ≠ [] := fun e => by
  have := (pls_of hk hf).len
  rw [e] at this
  simp at this
theorem head_op {t : PW} (h : WfW t) : ∃ x r, backW t = x :: r ∧ x.op ≠ 2 ∧ tellsO x.op = false := by
  cases h with
  | el hm => exact ⟨_, _, back_open (may_open hm), show (1 : Int) ≠ 2 by decide, rfl⟩
  | vo hm => exact ⟨_, _, back_void (may_void hm), show (3 : Int) ≠ 2 by decide, rfl⟩
  | @tx t => exact ⟨⟨4, t, z0⟩, [], by simp [backW], show (4 : Int) ≠ 2 by decide, rfl⟩
  | nd => exact ⟨⟨8, z0, z0⟩, [], by simp [backW], show (8 : Int) ≠ 2 by decide, rfl⟩
  | al => exact ⟨⟨7, z0, z0⟩, [], by simp [backW], show (7 : Int) ≠ 2 by decide, rfl⟩
theorem back_all {t : PW} (h : WfW t) (hk : t.kind = 4) : backW t = [⟨7, z0, z0⟩] := by
  cases h with
  | el => simp [PW.kind] at hk
  | vo => simp [PW.kind] at hk
  | tx => simp [PW.kind] at hk
  | nd => simp [PW.kind] at hk
  | al => simp [backW]
/-- at one place -/
theorem last_at {l pre post : List In} {ws : List PW} (hf : firstW l l.length = 0) (hl : l = pre ++ (backL ws ++ post)) (hw : ∀ w ∈ ws, WfW w) : LastK ws := by
  intro i hi hk
  refine Classical.byContradiction fun hne => ?_
  have hlt : i + 1 < ws.length := by omega
  have hsplit : ws = ws.take i ++ ws[i] :: ws[i + 1] :: ws.drop (i + 2) := by
    rw [← List.drop_eq_getElem_cons hlt, ← List.drop_eq_getElem_cons hi, List.take_append_drop]
  have h7 := back_all (hw _ (List.getElem_mem hi)) hk
  obtain ⟨x, r, hx, hx2, hxt⟩ := head_op (hw _ (List.getElem_mem hlt))
  have e := congrArg backL hsplit
  rw [backL_append, backL, backL, h7, hx] at e
  have hl2 : l = pre ++ ((backL (ws.take i) ++ [⟨7, z0, z0⟩]) ++ (x :: r ++ backL (ws.drop (i + 2)) ++ post)) := by rw [hl, e]; simp
  have hpl : pre.length ≤ l.length := by rw [hl]; simp
  have hS := places_ne hpl (by
    rcases Nat.lt_or_ge pre.length l.length with h | h
    · exact (first_at h hf).1
    · rw [show pre.length = l.length by omega]; exact hf)
  have hp := places_app (l := l) (backL (ws.take i) ++ [⟨7, z0, z0⟩]) (a := pre) hl2
  obtain ⟨t, et⟩ := lvlP_list (ws := ws.take i) (fun w hm => lvlP_w w (hw w (List.mem_of_mem_take hm))) (placesK l pre.length) hS
  rw [List.foldl_append, et, List.foldl_cons, List.foldl_nil, step_one (show (7 : Int) ≠ 1 by decide) (show (7 : Int) ≠ 2 by decide), drop_snoc, lastP_snoc] at hp
  have hkl : pre.length + (backL (ws.take i) ++ [(⟨7, z0, z0⟩ : In)]).length < l.length := by rw [hl2]; simp
  have hat : l[pre.length + (backL (ws.take i) ++ [(⟨7, z0, z0⟩ : In)]).length]? = some x := by
    rw [hl2, List.getElem?_append_right (by omega), Nat.add_sub_cancel_left, List.getElem?_append_right (Nat.le_refl _), Nat.sub_self]
    rfl
  have hat2 : l[pre.length + (backL (ws.take i) ++ [(⟨7, z0, z0⟩ : In)]).length] = x := by rw [List.getElem?_eq_getElem hkl] at hat; injection hat
  obtain ⟨f0, w0⟩ := first_at hkl hf
  rw [wrong_places hkl f0, hat2, hp, wrongV] at w0
  split at w0
  · cases w0
  · simp only [hxt, if_neg hx2, lastP_snoc, Bool.false_eq_true, if_false] at w0
    rw [if_pos (by simp)] at w0
    cases w0
theorem lastW_list {l : List In} : ∀ {ks : List PW} {pre post : List In}, (∀ k ∈ ks, ∀ pre post, l = pre ++ (backW k ++ post) → LastW k) → l = pre ++ (backL ks ++ post) → ∀ k ∈ ks, LastW k
  | [], _, _, _, _, k, hk => by cases hk
  | a :: ks, pre, post, h, hl, k, hk => by
    rw [backL] at hl
    rcases List.mem_cons.1 hk with rfl | hk
    · exact h _ (by simp) pre (backL ks ++ post) (by rw [hl, List.append_assoc])
    · exact lastW_list (ks := ks) (pre := pre ++ backW a) (post := post) (fun k hk => h k (by simp [hk])) (by rw [hl]; simp) k hk
theorem last_sub {l : List In} (hf : firstW l l.length = 0) : ∀ e : PW, WfW e → ∀ pre post, l = pre ++ (backW e ++ post) → LastW e := by
  intro e
  induction e using PW.ind with
  | h kind tag key txt attrs kids ih =>
    intro hw pre post hl
    have nil : ∀ {kind : Int} {tag key txt : ByteArray} {attrs : List P3.At}, LastW (.mk kind tag key txt attrs []) := .mk (fun i h => by simp at h) (fun k hk => by cases hk)
    cases hw with
    | el hm ha hk =>
      rw [back_open (may_open hm)] at hl
      have hl2 : l = (pre ++ ⟨1, tag, key⟩ :: attrs.map atI) ++ (backL kids ++ ([⟨2, z0, z0⟩] ++ post)) := by rw [hl]; simp
      exact .mk (last_at hf hl2 hk) (lastW_list (fun k hk' => ih k hk' (hk k hk')) hl2)
    | vo hm ha => exact nil
    | tx _ => exact nil
    | nd => exact nil
    | al => exact nil
theorem last_all {l : List In} (h : checkP l = 0) : LastP (wantP l) := by
  obtain ⟨_, hf, _⟩ := check_first h
  obtain ⟨hb, hw⟩ := want_back h
  have hl : l = [] ++ (backL (wantP l) ++ []) := by simp [hb]
  exact ⟨last_at hf hl hw, lastW_list (fun k hk => last_sub hf k (hw k hk)) hl⟩
end Go.Proofs.Ythdgaoifbejpjaa.P20
