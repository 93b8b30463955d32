/- The attributes that a program that may be wants are few, and of one name each; what it comes to may be. No condition but those stated. -/
import Derived.Test.YthdgaoifbejpjaaM22
set_option linter.unusedVariables false
set_option linter.unusedSimpArgs false
set_option linter.unusedVariables false
set_option linter.unusedSimpArgs false
namespace Go.Proofs.Ythdgaoifbejpjaa.P17
open Go.RowKit Kd P4 P5 P11 P12 P13 P14 P16

/-- what is wanted has attributes that may be, at all depths -/
inductive GdW : PW → Prop
  | mk {kind : Int} {tag key txt : ByteArray} {attrs : List P3.At} {kids : List PW} (ha : P3.mayA attrs = true) (hk : ∀ k ∈ kids, GdW k) : GdW (.mk kind tag key txt attrs kids)
theorem atI_tells (a : P3.At) : tellsO (atI a).op = true := by
  cases h : a.st <;> simp [atI, h, tellsO]
theorem atI_parts {a : P3.At} (h : mayI (atI a) = true) : P1.nameB a.nm.data.toList = true ∧ P1.textB a.vl.data.toList = true := by
  cases hs : a.st <;> simp [atI, hs, mayI] at h <;> exact h
theorem names_at {l pre post : List In} {x : In} {ats : List P3.At} (hl : l = pre ++ x :: (ats.map atI ++ post)) (hx : makesO x.op = true) (hf : firstW l l.length = 0) (hm : ∀ a ∈ ats, mayI (atI a) = true) : P3.mayA ats = true := by
  have hlen : l.length = pre.length + 1 + ats.length + post.length := by rw [hl]; simp; omega
  have at0 : l[pre.length]? = some x := by rw [hl, List.getElem?_append_right (Nat.le_refl _), Nat.sub_self]; rfl
  have atj : ∀ j (hj : j < ats.length), l[pre.length + 1 + j]? = some (atI ats[j]) := fun j hj => by
    rw [hl, List.getElem?_append_right (by omega), show pre.length + 1 + j - pre.length = j + 1 by omega, List.getElem?_cons_succ, List.getElem?_append_left (by simpa using hj), List.getElem?_map, List.getElem?_eq_getElem hj]
    rfl
  have nm : ∀ j, j ≤ ats.length → namesK l (pre.length + 1 + j) = some ((ats.take j).map (fun a => a.nm.toList)) := by
    intro j
    induction j with
    | zero =>
      intro _
      have h1 : pre.length < l.length := by omega
      have e : l[pre.length] = x := by rw [List.getElem?_eq_getElem h1] at at0; injection at0
      rw [Nat.add_zero, namesK_step h1, e, stepN_makes hx]
      rfl
    | succ j ih =>
      intro hj
      have h1 : pre.length + 1 + j < l.length := by omega
      have e : l[pre.length + 1 + j] = atI (ats[j]'(by omega)) := by
        have := atj j (by omega)
        rw [List.getElem?_eq_getElem h1] at this
        injection this
      rw [show pre.length + 1 + (j + 1) = pre.length + 1 + j + 1 by omega, namesK_step h1, e, stepN_tells (atI_tells _), ih (by omega), List.take_add_one, List.getElem?_eq_getElem (by omega), Option.toList_some, List.map_append]
      rfl
  have ok : ∀ j (hj : j < ats.length), ats[j].nm.toList ∉ (ats.take j).map (fun a => a.nm.toList) ∧ j < 8 := fun j hj => by
    have h1 : pre.length + 1 + j < l.length := by omega
    have h2 := (first_at h1 hf).2
    rw [wrongP, atj j hj] at h2
    simp only [wrongAt] at h2
    rw [hm _ (List.getElem_mem hj), if_neg (by decide), atI_tells, if_pos rfl, attrD_names l _ _ 0 (by omega), nm j (by omega), attrN_some] at h2
    split at h2
    · cases h2
    · rename_i hno
      simp only [not_or, List.length_map, List.length_take] at hno
      exact ⟨hno.1, by have := hno.2; omega⟩
  refine P3.mayA_iff.2 ⟨?_, fun a ha => atI_parts (hm a ha), ?_⟩
  · rcases Nat.lt_or_ge 8 ats.length with h | h
    · have := (ok 8 h).2; omega
    · exact h
  · rw [List.pairwise_iff_getElem]
    intro i j hi hj hij e
    refine (ok j hj).1 ?_
    rw [List.mem_map]
    exact ⟨ats[i], by rw [List.mem_take_iff_getElem]; exact ⟨i, by omega, rfl⟩, e⟩
theorem good_list {l : List In} : ∀ {ks : List PW} {pre post : List In}, (∀ k ∈ ks, ∀ pre post, l = pre ++ (backW k ++ post) → GdW k) → l = pre ++ (backL ks ++ post) → ∀ k ∈ ks, GdW k
  | [], _, _, _, _, k, hk => by cases hk
  | a :: ks, pre, post, h, hl, k, hk => by
    rw [backL] at hl
    rcases List.mem_cons.1 hk with rfl | hk
    · exact h _ (by simp) pre (backL ks ++ post) (by rw [hl, List.append_assoc])
    · exact good_list (ks := ks) (pre := pre ++ backW a) (post := post) (fun k hk => h k (by simp [hk])) (by rw [hl]; simp) k hk
theorem good_sub {l : List In} (hf : firstW l l.length = 0) : ∀ e : PW, WfW e → ∀ pre post, l = pre ++ (backW e ++ post) → GdW e := by
  intro e
  induction e using PW.ind with
  | h kind tag key txt attrs kids ih =>
    intro hw pre post hl
    cases hw with
    | el hm ha hk =>
      rw [back_open (may_open hm)] at hl
      refine .mk (names_at (pre := pre) (post := backL kids ++ [⟨2, z0, z0⟩] ++ post) (x := ⟨1, tag, key⟩) (by rw [hl]; simp) rfl hf ha) ?_
      exact good_list (pre := pre ++ ⟨1, tag, key⟩ :: attrs.map atI) (post := [⟨2, z0, z0⟩] ++ post) (fun k hk' => ih k hk' (hk k hk')) (by rw [hl]; simp)
    | vo hm ha =>
      rw [back_void (may_void hm)] at hl
      exact .mk (names_at (pre := pre) (post := post) (x := ⟨3, tag, key⟩) (by rw [hl]; simp) rfl hf ha) (by intro k hk; cases hk)
    | tx _ => exact .mk rfl (by intro k hk; cases hk)
    | nd => exact .mk rfl (by intro k hk; cases hk)
    | al => exact .mk rfl (by intro k hk; cases hk)
theorem good_all {l : List In} (h : checkP l = 0) : ∀ t ∈ wantP l, GdW t := by
  obtain ⟨_, hf, _⟩ := check_first h
  obtain ⟨hb, hw⟩ := want_back h
  exact good_list (pre := []) (post := []) (fun k hk => good_sub hf k (hw k hk)) (by simp [hb])
/-! ### What a program comes to may be -/
theorem mayL_app {a b : List P8.PT} (h1 : P8.mayL a = true) (h2 : P8.mayL b = true) : P8.mayL (a ++ b) = true := by
  rw [P8.mayL_all] at h1 h2 ⊢
  rw [List.all_append, h1, h2]
  rfl
theorem mayL_at {l : List P8.PT} (h : P8.mayL l = true) {k : Nat} (hk : k < l.length) : P8.mayP (atP l k) = true := by
  rw [P8.mayL_all, List.all_eq_true] at h
  rw [atP_at hk]
  exact h _ (List.getElem_mem hk)
theorem mayP_kids {t : P8.PT} (h : P8.mayP t = true) : P8.mayL t.kids = true ∧ P3.mayA t.attrs = true := by
  obtain ⟨tag, txt, key, attrs, kids⟩ := t
  rw [P8.mayP] at h
  simp only [P8.PT.kids, P8.PT.attrs]
  split at h
  · simp only [Bool.and_eq_true, List.isEmpty_iff] at h
    obtain ⟨⟨_, rfl⟩, rfl⟩ := h
    exact ⟨rfl, rfl⟩
  · simp only [Bool.and_eq_true] at h
    exact ⟨h.2, h.1.1.1.2⟩
def PieceMay (w : PW) : Prop := WfW w → GdW w → ∀ (a : Int) (kept : List Int) (old : List P8.PT), P8.mayL old = true → (a < old.length) → (∀ k ∈ kept, 0 ≤ k ∧ k < (old.length : Int)) → P8.mayL (pieceW w a kept old) = true
theorem goL_may : ∀ {ws : List PW}, (∀ w ∈ ws, PieceMay w) → (∀ w ∈ ws, WfW w) → (∀ w ∈ ws, GdW w) → ∀ (T kept : List Int) (old : List P8.PT), P8.mayL old = true → (∀ a ∈ T, a < (old.length : Int)) → (∀ k ∈ kept, 0 ≤ k ∧ k < (old.length : Int)) → P8.mayL (goL ws T kept old) = true
  | [], _, _, _, T, kept, old, _, _, _ => by simp [goL, P8.mayL]
  | w :: ws, hp, hw, hg, T, kept, old, ho, hT, hk => by
    rw [goL]
    refine mayL_app (hp w (by simp) (hw w (by simp)) (hg w (by simp)) (T.headD (-1)) kept old ho ?_ hk) (goL_may (ws := ws) (fun x hx => hp x (by simp [hx])) (fun x hx => hw x (by simp [hx])) (fun x hx => hg x (by simp [hx])) T.tail kept old ho (fun a ha => hT a (List.mem_of_mem_tail ha)) hk)
    cases T with
    | nil => simp only [List.headD_nil]; omega
    | cons a r => exact hT a (by simp)
theorem denP_may {ws : List PW} (hp : ∀ w ∈ ws, PieceMay w) (hw : ∀ w ∈ ws, WfW w) (hg : ∀ w ∈ ws, GdW w) {old : List P8.PT} (ho : P8.mayL old = true) : P8.mayL (denP ws old) = true := by
  have hone := once_fold (old.map olP) ws
  have hlen : (old.map olP).length = old.length := List.length_map ..
  exact goL_may hp hw hg _ _ _ ho (fun a ha => by have := hone.take a ha; rw [hlen] at this; omega) (fun k hk => by have := hone.kept k hk; rw [hlen] at this; omega)
theorem void_name {l : List UInt8} (h : P1.voidB l = true) : P1.nameB l = true := by
  unfold P1.voidB at h
  simp only [Bool.or_eq_true, beq_iff_eq] at h
  rcases h with ((h | h) | h) | h <;> rw [h] <;> decide
theorem name_ne {a : ByteArray} (h : P1.nameB a.data.toList = true) : a.toList.isEmpty = false := by
  rw [ByteArray.toList_eq]
  cases hd : a.data.toList with
  | nil => rw [hd] at h; cases h
  | cons x r => rfl
theorem piece_may (w : PW) : PieceMay w := by
  induction w using PW.ind with
  | h kind tag key txt attrs kids ih =>
    intro hwf hgd a kept old ho ha hkept
    have hz0 : z0.toList = [] := by rw [ByteArray.toList_eq]; rfl
    have elem : kind = 1 → P1.nameB tag.data.toList = true → P1.textB key.data.toList = true → (P1.voidB tag.data.toList = false ∨ kids = []) → (∀ k ∈ kids, WfW k) → P8.mayL (pieceW (.mk kind tag key txt attrs kids) a kept old) = true := by
      intro hk1 ht hky hv hks
      obtain ⟨hA, hgk⟩ : P3.mayA attrs = true ∧ ∀ k ∈ kids, GdW k := by cases hgd with | mk h1 h2 => exact ⟨h1, h2⟩
      have key2 : ∀ (ats : List P3.At) (okids : List P8.PT), P3.mayA ats = true → P8.mayL okids = true → P8.mayL [.mk tag z0 key ats (denP kids okids)] = true := fun ats okids h1 h2 => by
        have hd := denP_may (ws := kids) (fun k hk => ih k hk) hks hgk h2
        have hv2 : (P1.voidB tag.data.toList && !(denP kids okids).isEmpty) = false := by
          rcases hv with h | h
          · rw [h]; rfl
          · subst h
            have : denP [] okids = [] := by unfold denP; rw [goL]
            rw [this]
            simp
        rw [P8.mayL, P8.mayL, P8.mayP, if_neg (by rw [name_ne ht]; decide), ht, hky, h1, hz0, hv2, hd]
        rfl
      by_cases h0 : 0 ≤ a
      · rw [piece_take hk1 h0]
        have hp := mayP_kids (mayL_at ho (k := a.toNat) (by omega))
        exact key2 _ _ (P3.joinA_may hp.2 hA) hp.1
      · rw [piece_new hk1 h0]
        exact key2 _ _ (P3.newA_may hA) rfl
    cases hwf with
    | el hm hat hks =>
      have hv := may_open hm
      simp only [mayI, if_true, Bool.and_eq_true] at hm
      exact elem rfl hm.1.1 hm.2 (Or.inl hv) hks
    | vo hm hat =>
      have hv := may_void hm
      have hn : P1.nameB tag.data.toList = true := void_name hv
      simp only [mayI, show ¬ (3 : Int) = 1 by decide, if_false, if_true, Bool.and_eq_true] at hm
      exact elem rfl hn hm.2 (Or.inr rfl) (by intro k hk; cases hk)
    | tx hm =>
      rw [piece_text]
      simp only [mayI, show ¬ (4 : Int) = 1 by decide, show ¬ (4 : Int) = 3 by decide, if_false, if_true, Bool.and_eq_true] at hm
      rw [P8.mayL, P8.mayL, P8.mayP, if_pos (by rw [hz0]; rfl), hm.1, hz0]
      rfl
    | nd =>
      rw [piece_node]
      split
      · rw [P8.mayL, P8.mayL, mayL_at ho (k := a.toNat) (by omega)]
        rfl
      · rfl
    | al =>
      rw [piece_all, P8.mayL_all, List.all_eq_true]
      intro t ht
      obtain ⟨k, hk, rfl⟩ := List.mem_map.1 ht
      have := hkept k hk
      exact mayL_at ho (k := k.toNat) (by omega)
/-- of a program that may be and trees that may be: what comes of it may be -/
theorem den_may {l : List In} (h : checkP l = 0) {old : List P8.PT} (ho : P8.mayL old = true) : P8.mayL (denP (wantP l) old) = true := denP_may (fun w _ => piece_may w) (want_back h).2 (good_all h) ho
end Go.Proofs.Ythdgaoifbejpjaa.P17

/- Without what stays: what a program comes to, done again, stays. No condition but those stated. -/
set_option linter.unusedVariables false
set_option linter.unusedSimpArgs false
namespace Go.Proofs.Ythdgaoifbejpjaa.P17
open Go.RowKit Kd P4 P5 P11 P12 P13 P14 P16

/-- nothing that stays is wanted, at all depths -/
inductive NoSt : PW → Prop
  | el {tag key txt : ByteArray} {attrs : List P3.At} {kids : List PW} (hk : ∀ k ∈ kids, NoSt k) : NoSt (.mk 1 tag key txt attrs kids)
  | tx {tag key txt : ByteArray} {attrs : List P3.At} {kids : List PW} : NoSt (.mk 2 tag key txt attrs kids)
/-- a tree that what is wanted takes, if it stands first -/
def Fits (w : PW) (t : P8.PT) : Prop := takesW w (olP t) true = true
theorem fst_left {ws : List PW} {ts : List P8.PT} (hl : ts.length = ws.length) (hf : ∀ i (h : i < ws.length) (h' : i < ts.length), Fits ws[i] ts[i]) (h4 : ∀ w ∈ ws, w.kind ≠ 4) :
    ∀ i, i ≤ ws.length → foldM (ts.map olP) (ws.take i) = ⟨List.replicate i false ++ List.replicate (ws.length - i) true, (List.range i).map (fun (k : Nat) => (k : Int)), []⟩
  | 0, _ => by simp [foldM, hl]
  | i + 1, hi => by
    have ih := fst_left hl hf h4 i (by omega)
    have hiw : i < ws.length := by omega
    have hit : i < ts.length := by omega
    have hio : i < (ts.map olP).length := by simpa using hit
    rw [foldM_snoc hiw, ih, stepM, if_neg (h4 _ (List.getElem_mem hiw))]
    simp only
    have hgone : ∀ m, m ≤ i → scanM ws[i] (ts.map olP) (List.replicate i false ++ List.replicate (ws.length - i) true) m = (-1, true) := by
      intro m
      induction m with
      | zero => intro _; rfl
      | succ m ihm =>
        intro hm
        have e := ihm (by omega)
        rw [scanM_gone (by rw [e]; decide) (by rw [List.getElem?_append_left (by simp; omega), List.getElem?_replicate, if_pos (by omega)]), e]
    have hst : scanM ws[i] (ts.map olP) (List.replicate i false ++ List.replicate (ws.length - i) true) (i + 1) = ((i : Int), false) := by
      have e := hgone i (Nat.le_refl _)
      rw [scanM_left (o := olP ts[i]) (by rw [e]; decide) (by rw [List.getElem?_map, List.getElem?_eq_getElem hit]; rfl) (by rw [List.getElem?_append_right (by simp), List.length_replicate, Nat.sub_self, List.getElem?_replicate, if_pos (by omega)]), e, if_pos (show takesW ws[i] (olP ts[i]) (-1, true).2 = true from hf i hiw hit)]
    have hall : scanM ws[i] (ts.map olP) (List.replicate i false ++ List.replicate (ws.length - i) true) (ts.map olP).length = ((i : Int), false) := by
      have := scanM_stays (w := ws[i]) (old := ts.map olP) (left := List.replicate i false ++ List.replicate (ws.length - i) true) (k := i + 1) (by rw [hst]; simp) ((ts.map olP).length - (i + 1))
      rw [show i + 1 + ((ts.map olP).length - (i + 1)) = (ts.map olP).length by omega, hst] at this
      exact this
    rw [hall]
    have hleft : leftM (List.replicate i false ++ List.replicate (ws.length - i) true) (i : Int) = List.replicate (i + 1) false ++ List.replicate (ws.length - (i + 1)) true := by
      obtain ⟨r, hr⟩ : ∃ r, ws.length - i = r + 1 := ⟨ws.length - i - 1, by omega⟩
      rw [leftM, if_pos (by omega), Int.toNat_natCast, hr, List.set_append_right _ _ (by simp), List.length_replicate, Nat.sub_self, List.replicate_succ, List.set_cons_zero, show ws.length - (i + 1) = r by omega, List.replicate_succ', List.append_assoc]
      rfl
    rw [hleft, List.range_succ, List.map_append]
    rfl
/-- each thing's own tree -/
theorem goL_own : ∀ {ws : List PW} {T kept : List Int} {old : List P8.PT}, (∀ w ∈ ws, NoSt w) → (goL ws T kept old).length = ws.length ∧ ∀ i (h : i < ws.length) (h' : i < (goL ws T kept old).length), [(goL ws T kept old)[i]] = pieceW ws[i] (T[i]?.getD (-1)) kept old
  | [], T, kept, old, _ => ⟨by simp [goL], fun i h => by simp at h⟩
  | w :: ws, T, kept, old, hn => by
    obtain ⟨h1, h2⟩ := goL_own (ws := ws) (T := T.tail) (kept := kept) (old := old) (fun x hx => hn x (by simp [hx]))
    obtain ⟨t, ht⟩ : ∃ t, pieceW w (T.headD (-1)) kept old = [t] := by
      have := hn w (by simp)
      cases this with
      | el _ =>
        by_cases h0 : 0 ≤ T.headD (-1)
        · exact ⟨_, piece_take rfl h0⟩
        · exact ⟨_, piece_new rfl h0⟩
      | tx => exact ⟨_, piece_text⟩
    have e : goL (w :: ws) T kept old = t :: goL ws T.tail kept old := by rw [goL, ht]; rfl
    refine ⟨by rw [e]; simp [h1], fun i h h' => ?_⟩
    have e' := List.getElem_of_eq e h'
    rw [e']
    cases i with
    | zero =>
      simp only [List.getElem_cons_zero]
      rw [← ht]
      cases T <;> rfl
    | succ i =>
      simp only [List.getElem_cons_succ]
      rw [h2 i (by simpa using h) (by rw [e] at h'; simpa using h')]
      congr 1
      cases T <;> simp
def TwiceW (w : PW) : Prop := WfW w → GdW w → NoSt w → ∀ (a : Int) (kept kept' : List Int) (old ts : List P8.PT) (i : Nat) (t : P8.PT), P8.mayL old = true → a < (old.length : Int) → [t] = pieceW w a kept old → ts[i]? = some t → Fits w t ∧ pieceW w (i : Int) kept' ts = [t]
theorem den_again {ws : List PW} (hp : ∀ w ∈ ws, TwiceW w) (hw : ∀ w ∈ ws, WfW w) (hg : ∀ w ∈ ws, GdW w) (hn : ∀ w ∈ ws, NoSt w) {old : List P8.PT} (ho : P8.mayL old = true) : denP ws (denP ws old) = denP ws old := by
  have hone := once_fold (old.map olP) ws
  have hol : (old.map olP).length = old.length := List.length_map ..
  obtain ⟨h1, h2⟩ := goL_own (ws := ws) (T := (foldM (old.map olP) ws).take) (kept := (foldM (old.map olP) ws).kept) (old := old) hn
  have hT : ∀ i : Nat, ((foldM (old.map olP) ws).take[i]?.getD (-1)) < (old.length : Int) := fun i => by
    cases hi : (foldM (old.map olP) ws).take[i]? with
    | none => simp only [Option.getD_none]; omega
    | some a =>
      obtain ⟨hlt, rfl⟩ := List.getElem?_eq_some_iff.1 hi
      have := hone.take _ (List.getElem_mem hlt)
      rw [hol] at this
      simp only [Option.getD_some]
      omega
  have e0 : goL ws (foldM (old.map olP) ws).take (foldM (old.map olP) ws).kept old = denP ws old := rfl
  rw [e0] at h1 h2
  generalize denP ws old = ts at h1 h2 ⊢
  have key : ∀ i (h : i < ws.length) (h' : i < ts.length) (kept' : List Int), Fits ws[i] ts[i] ∧ pieceW ws[i] (i : Int) kept' ts = [ts[i]] := fun i h h' kept' =>
    hp _ (List.getElem_mem h) (hw _ (List.getElem_mem h)) (hg _ (List.getElem_mem h)) (hn _ (List.getElem_mem h)) _ _ kept' old ts i ts[i] ho (hT i) (h2 i h h') (List.getElem?_eq_getElem h')
  have h4 : ∀ w ∈ ws, w.kind ≠ 4 := fun w hm => by
    have := hn w hm
    cases this <;> simp [PW.kind]
  have hfold := fst_left h1 (fun i h h' => (key i h h' []).1) h4 ws.length (Nat.le_refl _)
  rw [List.take_length] at hfold
  obtain ⟨g1, g2⟩ := goL_own (ws := ws) (T := (foldM (ts.map olP) ws).take) (kept := (foldM (ts.map olP) ws).kept) (old := ts) hn
  have e1 : goL ws (foldM (ts.map olP) ws).take (foldM (ts.map olP) ws).kept ts = denP ws ts := rfl
  rw [e1] at g1 g2
  rw [hfold] at g2
  refine List.ext_getElem (by omega) (fun i k1 k2 => ?_)
  have hi : i < ws.length := by omega
  have h3 := g2 i hi k1
  simp only at h3
  rw [List.getElem?_map, List.getElem?_range hi] at h3
  simp only [Option.map_some, Option.getD_some] at h3
  rw [(key i hi k2 []).2] at h3
  exact (List.cons.inj h3).1
theorem bq_self (a : ByteArray) : bq a a = true := by simp [bq]
theorem twice_w (w : PW) : TwiceW w := by
  induction w using PW.ind with
  | h kind tag key txt attrs kids ih =>
    intro hw hg hn a kept kept' old ts i t ho ha ht hts
    have hat : atP ts i = t := by rw [atP, hts]; rfl
    cases hn with
    | el hnk =>
      obtain ⟨hA, hgk⟩ : P3.mayA attrs = true ∧ ∀ k ∈ kids, GdW k := by cases hg with | mk h1 h2 => exact ⟨h1, h2⟩
      have hwk : ∀ k ∈ kids, WfW k := by
        cases hw with
        | el _ _ h => exact h
        | vo _ _ => intro k hk; cases hk
      have h0i : (0 : Int) ≤ (i : Int) := by omega
      have fin : ∀ (ats : List P3.At) (okids : List P8.PT), P8.mayL okids = true → P3.joinA ats attrs = ats → t = .mk tag z0 key ats (denP kids okids) → Fits (.mk 1 tag key txt attrs kids) t ∧ pieceW (.mk 1 tag key txt attrs kids) (i : Int) kept' ts = [t] := fun ats okids h1 h2 h3 => by
        refine ⟨?_, ?_⟩
        · subst h3
          simp only [Fits, takesW, PW.kind, PW.tag, PW.key, olP, P8.PT.tag, P8.PT.key, if_true, bq_self, Bool.true_and, Bool.true_or]
        · rw [piece_take rfl h0i, Int.toNat_natCast, hat]
          subst h3
          simp only [P8.PT.attrs, P8.PT.kids]
          rw [h2, den_again (fun k hk => ih k hk) hwk hgk hnk h1]
      by_cases h0 : 0 ≤ a
      · rw [piece_take rfl h0] at ht
        have hm := mayP_kids (mayL_at ho (k := a.toNat) (by omega))
        exact fin _ _ hm.1 (P3.joinA_again hm.2) (List.cons.inj ht).1
      · rw [piece_new rfl h0] at ht
        exact fin _ _ rfl (P3.joinA_new hA) (List.cons.inj ht).1
    | tx =>
      rw [piece_text] at ht
      have h3 : t = .mk z0 txt z0 [] [] := (List.cons.inj ht).1
      refine ⟨?_, by rw [piece_text, h3]⟩
      subst h3
      have hz0 : z0.toList = [] := by rw [ByteArray.toList_eq]; rfl
      simp [Fits, takesW, PW.kind, olP, P8.PT.tag, hz0]
/-- done again it stays -/
theorem den_twice {l : List In} (h : checkP l = 0) (hn : ∀ t ∈ wantP l, NoSt t) {old : List P8.PT} (ho : P8.mayL old = true) : denP (wantP l) (denP (wantP l) old) = denP (wantP l) old :=
  den_again (fun w _ => twice_w w) (want_back h).2 (good_all h) hn ho
end Go.Proofs.Ythdgaoifbejpjaa.P17

/- What stays, and the shape of what a program comes to. No condition. -/
set_option linter.unusedVariables false
set_option linter.unusedSimpArgs false
namespace Go.Proofs.Ythdgaoifbejpjaa.P17
open Go.RowKit Kd P4 P5 P11 P12 P13 P14 P16

mutual
/-- how many things are wanted that stay, at all depths -/
def stW : PW → Nat
  | .mk kind _ _ _ _ kids => (if kind = 3 ∨ kind = 4 then 1 else 0) + stL kids
def stL : List PW → Nat
  | [] => 0
  | a :: l => stW a + stL l
end
theorem stL_append : ∀ l m : List PW, stL (l ++ m) = stL l + stL m
  | [], m => by simp [stL]
  | a :: l, m => by simp [stL, stL_append l m]; omega
theorem stL_take {l : List PW} {k : Nat} (h : k < l.length) : stL (l.take (k + 1)) = stL (l.take k) + stW l[k] := by
  rw [List.take_add_one, List.getElem?_eq_getElem h, stL_append]
  simp [stL]
theorem stL_at : ∀ {l : List PW} {w : PW}, w ∈ l → stW w ≤ stL l
  | a :: l, w, h => by
    rw [stL]
    rcases List.mem_cons.1 h with rfl | h
    · omega
    · have := stL_at h; omega
theorem st_wt (t : PW) : stW t ≤ wtW t := by
  induction t using PW.ind with
  | h kind tag key txt attrs kids ih =>
    have h : ∀ l : List PW, (∀ k ∈ l, stW k ≤ wtW k) → stL l ≤ wtL l := by
      intro l
      induction l with
      | nil => intro _; simp [stL]
      | cons a r ihr => intro h; have := h a (by simp); have := ihr (fun k hk => h k (by simp [hk])); rw [stL, wtL]; omega
    have := h kids ih
    rw [stW, wtW]
    split <;> omega
theorem stL_wt : ∀ l : List PW, stL l ≤ wtL l
  | [] => by simp [stL]
  | a :: l => by have := st_wt a; have := stL_wt l; rw [stL, wtL]; omega
theorem st_none (w : PW) : WfW w → stW w = 0 → NoSt w := by
  induction w using PW.ind with
  | h kind tag key txt attrs kids ih =>
    intro hw hs
    rw [stW] at hs
    cases hw with
    | el _ _ hk => exact .el fun k hm => ih k hm (hk k hm) (by have := stL_at hm; omega)
    | vo _ _ => exact .el fun k hm => by cases hm
    | tx _ => exact .tx
    | nd => simp at hs
    | al => simp at hs
theorem st_noneL {ws : List PW} (hw : ∀ w ∈ ws, WfW w) (h : stL ws = 0) : ∀ w ∈ ws, NoSt w := fun w hm => st_none w (hw w hm) (by have := stL_at hm; omega)
/-- of one shape, but for attributes -/
inductive ShW : PW → P8.PT → Prop
  | mk {kind : Int} {tag key txt : ByteArray} {attrs ats : List P3.At} {kids : List PW} {tk : List P8.PT} (hl : kids.length = tk.length) (hk : ∀ (i : Nat) (h : i < kids.length) (h' : i < tk.length), ShW kids[i] tk[i]) : ShW (.mk kind tag key txt attrs kids) (.mk tag txt key ats tk)
def ShL (ws : List PW) (ts : List P8.PT) : Prop := ws.length = ts.length ∧ ∀ (i : Nat) (h : i < ws.length) (h' : i < ts.length), ShW ws[i] ts[i]
theorem den_shape {ws : List PW} (hp : ∀ w ∈ ws, ∀ a kept old t, [t] = pieceW w a kept old → ShW w t) (hn : ∀ w ∈ ws, NoSt w) (old : List P8.PT) : ShL ws (denP ws old) := by
  obtain ⟨h1, h2⟩ := goL_own (ws := ws) (T := (foldM (old.map olP) ws).take) (kept := (foldM (old.map olP) ws).kept) (old := old) hn
  exact ⟨h1.symm, fun i h h' => hp _ (List.getElem_mem h) _ _ _ _ (h2 i h h')⟩
theorem piece_shape (w : PW) : WfW w → NoSt w → ∀ a kept old t, [t] = pieceW w a kept old → ShW w t := by
  induction w using PW.ind with
  | h kind tag key txt attrs kids ih =>
    intro hw hn a kept old t ht
    cases hn with
    | el hnk =>
      have hwk : txt = z0 ∧ ∀ k ∈ kids, WfW k := by
        cases hw with
        | el _ _ h => exact ⟨rfl, h⟩
        | vo _ _ => exact ⟨rfl, by intro k hk; cases hk⟩
      obtain ⟨rfl, hwk⟩ := hwk
      have sh : ∀ okids, ShL kids (denP kids okids) := fun okids => den_shape (fun k hk => ih k hk (hwk k hk) (hnk k hk)) hnk okids
      by_cases h0 : 0 ≤ a
      · rw [piece_take rfl h0] at ht
        rw [(List.cons.inj ht).1]
        exact .mk (sh _).1 (sh _).2
      · rw [piece_new rfl h0] at ht
        rw [(List.cons.inj ht).1]
        exact .mk (sh _).1 (sh _).2
    | tx =>
      rw [piece_text] at ht
      rw [(List.cons.inj ht).1]
      cases hw with
      | tx _ => exact .mk rfl (fun i h _ => by simp at h)
theorem shape_all {ws : List PW} (hw : ∀ w ∈ ws, WfW w) (hn : ∀ w ∈ ws, NoSt w) (old : List P8.PT) : ShL ws (denP ws old) := den_shape (fun w hm => piece_shape w (hw w hm) (hn w hm)) hn old
/-! ### How many -/
theorem count_goL : ∀ {ws : List PW}, (∀ w ∈ ws, ∀ a kept old, P8.countL (pieceW w a kept old) ≤ wtW w) → ∀ T kept old, P8.countL (goL ws T kept old) ≤ wtL ws
  | [], _, T, kept, old => by simp [goL, P8.countL]
  | w :: ws, h, T, kept, old => by
    have h1 := h w (by simp) (T.headD (-1)) kept old
    have h2 := count_goL (ws := ws) (fun x hx => h x (by simp [hx])) T.tail kept old
    rw [goL, P8.countL_append, wtL]
    omega
theorem count_piece (w : PW) : NoSt w → ∀ a kept old, P8.countL (pieceW w a kept old) ≤ wtW w := by
  induction w using PW.ind with
  | h kind tag key txt attrs kids ih =>
    intro hn a kept old
    cases hn with
    | el hnk =>
      have hd : ∀ okids, P8.countL (denP kids okids) ≤ wtL kids := fun okids => count_goL (fun k hk => ih k hk (hnk k hk)) _ _ _
      by_cases h0 : 0 ≤ a
      · rw [piece_take rfl h0, P8.countL, P8.countL, P8.countP, wtW]
        have := hd (atP old a.toNat).kids
        omega
      · rw [piece_new rfl h0, P8.countL, P8.countL, P8.countP, wtW]
        have := hd []
        omega
    | tx =>
      rw [piece_text, P8.countL, P8.countL, P8.countP, P8.countL, wtW]
      omega
theorem count_den {ws : List PW} (hn : ∀ w ∈ ws, NoSt w) (old : List P8.PT) : P8.countL (denP ws old) ≤ wtL ws := count_goL (fun w hm => count_piece w (hn w hm)) _ _ _
end Go.Proofs.Ythdgaoifbejpjaa.P17
