/- Trees as HTML, plain: of plain trees that may be, of two that are put alike one is the other. No condition. -/
import Derived.Test.YthdgaoifbejpjaaM8
import Derived.Test.YthdgaoifbejpjaaM23
set_option linter.unusedVariables false
set_option linter.unusedSimpArgs false
set_option linter.unusedVariables false
set_option linter.unusedSimpArgs false
namespace Go.Proofs.Ythdgaoifbejpjaa.P9
open Go.RowKit Kd P4 P5 P8

def attrH (a : P3.At) : List UInt8 := 32 :: (a.nm.data.toList ++ 61 :: 34 :: (P2.putL a.vl.data.toList ++ [34]))
def attrsH (l : List P3.At) : List UInt8 := l.flatMap attrH
mutual
def putH : PT → List UInt8
  | .mk tag txt _ attrs kids =>
    if tag.toList.isEmpty then P2.putL txt.data.toList
    else 60 :: (tag.data.toList ++ (attrsH attrs ++ 62 :: (if P1.voidB tag.data.toList then [] else allH kids ++ 60 :: 47 :: (tag.data.toList ++ [62]))))
def allH : List PT → List UInt8
  | [] => []
  | a :: l => putH a ++ allH l
end
theorem allH_append : ∀ l m : List PT, allH (l ++ m) = allH l ++ allH m
  | [], m => by simp [allH]
  | a :: l, m => by simp [allH, allH_append l m]
mutual
/-- no keys, no static attributes, no texts that are empty or beside each other, below it -/
def plT : PT → Bool
  | .mk _ _ key attrs kids => key.toList.isEmpty && attrs.all (fun a => !a.st) && plL kids false
/-- nor here, behind a text, or not -/
def plL : List PT → Bool → Bool
  | [], _ => true
  | a :: l, prev => plT a && (!a.tag.toList.isEmpty || (!a.txt.toList.isEmpty && !prev)) && plL l a.tag.toList.isEmpty
end
/-! ### Where a text ends -/
def Stop (p : UInt8 → Bool) (u : List UInt8) : Prop := u = [] ∨ ∃ c r, u = c :: r ∧ p c = false
theorem split_at {p : UInt8 → Bool} : ∀ {x y u v : List UInt8}, (∀ c ∈ x, p c = true) → (∀ c ∈ y, p c = true) → Stop p u → Stop p v → x ++ u = y ++ v → x = y ∧ u = v
  | [], [], _, _, _, _, _, _, e => ⟨rfl, e⟩
  | [], b :: y, u, v, _, hy, hu, _, e => by
    rcases hu with rfl | ⟨c, r, rfl, hc⟩
    · simp at e
    · simp only [List.nil_append, List.cons_append, List.cons.injEq] at e
      have := hy b (by simp)
      rw [← e.1, hc] at this
      cases this
  | a :: x, [], u, v, hx, _, _, hv, e => by
    rcases hv with rfl | ⟨c, r, rfl, hc⟩
    · simp at e
    · simp only [List.nil_append, List.cons_append, List.cons.injEq] at e
      have := hx a (by simp)
      rw [e.1, hc] at this
      cases this
  | a :: x, b :: y, u, v, hx, hy, hu, hv, e => by
    simp only [List.cons_append, List.cons.injEq] at e
    obtain ⟨h1, h2⟩ := split_at (fun c hc => hx c (by simp [hc])) (fun c hc => hy c (by simp [hc])) hu hv e.2
    exact ⟨by rw [e.1, h1], h2⟩
theorem put_inj {x y : List UInt8} (h : P2.putL x = P2.putL y) : x = y := by
  have h1 := P2.getL_put x
  rw [h, P2.getL_put y] at h1
  injection h1 with h1
  exact h1.symm
theorem name_in {l : List UInt8} (h : P1.nameB l = true) : l ≠ [] ∧ ∀ c ∈ l, P1.inB c = true := by
  cases l with
  | nil => simp [P1.nameB] at h
  | cons c r =>
    obtain ⟨_, h1, h2⟩ := P1.nameB_cons h
    refine ⟨by simp, fun x hx => ?_⟩
    rcases List.mem_cons.1 hx with rfl | hx
    · exact P1.inB_let h1
    · exact List.all_eq_true.1 h2 x hx
theorem in_ne {c : UInt8} (h : P1.inB c = true) : c ≠ 32 ∧ c ≠ 62 ∧ c ≠ 61 ∧ c ≠ 47 ∧ c ≠ 60 := by
  refine ⟨?_, ?_, ?_, ?_, ?_⟩ <;> (rintro rfl; revert h; decide)
theorem to_bytes {a b : ByteArray} (h : a.data.toList = b.data.toList) : a.toList = b.toList := by rw [ByteArray.toList_eq, ByteArray.toList_eq, h]
/-! ### Attributes -/
theorem attrs_one : ∀ {l m : List P3.At} {u v : List UInt8}, (∀ a ∈ l, P1.nameB a.nm.data.toList = true ∧ a.st = false) → (∀ a ∈ m, P1.nameB a.nm.data.toList = true ∧ a.st = false) → attrsH l ++ 62 :: u = attrsH m ++ 62 :: v → P3.sameA l m = true ∧ u = v
  | [], [], u, v, _, _, e => by
    simp [attrsH] at e
    exact ⟨rfl, e⟩
  | [], b :: m, u, v, _, _, e => by
    simp [attrsH, attrH] at e
  | a :: l, [], u, v, _, _, e => by
    simp [attrsH, attrH] at e
  | a :: l, b :: m, u, v, hl, hm, e => by
    have e2 : a.nm.data.toList ++ 61 :: 34 :: (P2.putL a.vl.data.toList ++ 34 :: (attrsH l ++ 62 :: u)) = b.nm.data.toList ++ 61 :: 34 :: (P2.putL b.vl.data.toList ++ 34 :: (attrsH m ++ 62 :: v)) := by
      simpa [attrsH, attrH] using e
    obtain ⟨h1, h2⟩ := split_at (p := fun c => c != 61) (fun c hc => by have := (in_ne ((name_in (hl a (by simp)).1).2 c hc)).2.2.1; simpa using this) (fun c hc => by have := (in_ne ((name_in (hm b (by simp)).1).2 c hc)).2.2.1; simpa using this) (.inr ⟨61, _, rfl, by decide⟩) (.inr ⟨61, _, rfl, by decide⟩) e2
    simp only [List.cons.injEq, true_and] at h2
    obtain ⟨h3, h4⟩ := split_at (p := fun c => c != 34) (fun c hc => by have := (P2.putL_clean hc).2.2; simpa using this) (fun c hc => by have := (P2.putL_clean hc).2.2; simpa using this) (.inr ⟨34, _, rfl, by decide⟩) (.inr ⟨34, _, rfl, by decide⟩) h2
    simp only [List.cons.injEq, true_and] at h4
    obtain ⟨h5, h6⟩ := attrs_one (fun c hc => hl c (by simp [hc])) (fun c hc => hm c (by simp [hc])) h4
    refine ⟨?_, h6⟩
    rw [P3.sameA, h5, Bool.and_true]
    have s1 := (hl a (by simp)).2
    have s2 := (hm b (by simp)).2
    unfold P3.atB
    rw [to_bytes h1, to_bytes (put_inj h3), s1, s2]
    simp
theorem attrs_same : ∀ {l m : List P3.At}, P3.sameA l m = true → attrsH l = attrsH m
  | [], [], _ => rfl
  | [], _ :: _, h => by simp [P3.sameA] at h
  | _ :: _, [], h => by simp [P3.sameA] at h
  | a :: l, b :: m, h => by
    rw [P3.sameA, Bool.and_eq_true] at h
    have hab := h.1
    unfold P3.atB at hab
    simp only [Bool.and_eq_true, beq_iff_eq, decide_eq_true_eq, ByteArray.toList_eq] at hab
    have e := attrs_same h.2
    simp only [attrsH, List.flatMap_cons, attrH] at e ⊢
    simp [e, hab]
/-! ### Trees -/
def Ends (s : List UInt8) : Prop := s = [] ∨ ∃ r, s = 60 :: 47 :: r
theorem stop_behind {l : List PT} {s : List UInt8} (h : plL l true = true) (hs : Ends s) : Stop (fun c => c != 60) (allH l ++ s) := by
  cases l with
  | nil =>
    rcases hs with rfl | ⟨r, rfl⟩
    · exact .inl rfl
    · exact .inr ⟨60, _, rfl, by decide⟩
  | cons a l =>
    cases a with
    | mk tag txt key attrs kids =>
      rw [plL] at h
      simp only [Bool.and_eq_true, Bool.not_true, Bool.and_false, Bool.or_false, Bool.not_eq_true'] at h
      have ht : tag.toList.isEmpty = false := h.1.2
      rw [allH, putH, ht]
      exact .inr ⟨60, _, rfl, by decide⟩
theorem clean60 {x : List UInt8} : ∀ c ∈ P2.putL x, (fun c : UInt8 => c != 60) c = true := fun c hc => by have := (P2.putL_clean hc).1; simpa using this
theorem put_ne {x : List UInt8} (h : x ≠ []) : P2.putL x ≠ [] := by
  cases x with
  | nil => exact absurd rfl h
  | cons c r =>
    have := (P2.signL_len c).1
    intro e
    have h2 := congrArg List.length e
    simp [P2.putL] at h2
    rw [h2.1] at this
    simp at this
/-- an element's first two bytes, and what stands behind them -/
theorem tag_cons {tag : ByteArray} (h : P1.nameB tag.data.toList = true) : ∃ c r, tag.data.toList = c :: r ∧ c ≠ 47 := by
  obtain ⟨h1, h2⟩ := name_in h
  cases e : tag.data.toList with
  | nil => exact absurd e h1
  | cons c r => exact ⟨c, r, rfl, (in_ne (h2 c (by rw [e]; simp))).2.2.2.1⟩
/-- what a list of trees begins with, that isn't empty: no end -/
theorem no_end {a : PT} {l : List PT} {s s' : List UInt8} {prev : Bool} (hm : mayP a = true) (hp : plL (a :: l) prev = true) (hs : Ends s) : s ≠ allH (a :: l) ++ s' := by
  intro e
  cases a with
  | mk tag txt key attrs kids =>
    rw [allH, putH, List.append_assoc] at e
    rw [mayP] at hm
    rw [plL] at hp
    simp only [Bool.and_eq_true, Bool.or_eq_true, Bool.not_eq_true'] at hp
    by_cases ht : tag.toList.isEmpty = true
    · rw [if_pos ht] at e
      have hx : txt.data.toList ≠ [] := by
        have h1 : txt.toList.isEmpty = false := by
          rcases hp.1.2 with h | h
          · have h : tag.toList.isEmpty = false := h
            rw [ht] at h; cases h
          · exact h.1
        rw [ByteArray.toList_eq] at h1
        intro e2
        rw [e2] at h1
        cases h1
      cases hq : P2.putL txt.data.toList with
      | nil => exact put_ne hx hq
      | cons c r =>
        rw [hq] at e
        have hc : c ≠ 60 := (P2.putL_clean (l := txt.data.toList) (by rw [hq]; simp)).1
        rcases hs with rfl | ⟨r', rfl⟩
        · cases e
        · simp only [List.cons_append, List.cons.injEq] at e
          exact hc e.1.symm
    · rw [if_neg ht] at e hm
      simp only [Bool.and_eq_true] at hm
      obtain ⟨c, r, hc, hne⟩ := tag_cons hm.1.1.1.1.1
      rw [hc] at e
      rcases hs with rfl | ⟨r', rfl⟩
      · cases e
      · simp only [List.cons_append, List.cons.injEq, true_and] at e
        exact hne e.1.symm
theorem uniq : ∀ (n : Nat) (l m : List PT) (pl pm : Bool) (s s' : List UInt8), countL l + countL m ≤ n → mayL l = true → mayL m = true → plL l pl = true → plL m pm = true → Ends s → Ends s' → allH l ++ s = allH m ++ s' → sameL l m = true ∧ s = s' := by
  intro n
  induction n with
  | zero =>
    intro l m pl pm s s' hn hl hm _ _ _ _ e
    cases l with
    | cons a l => have := count_pos a; simp [countL] at hn; omega
    | nil =>
      cases m with
      | cons a m => have := count_pos a; simp [countL] at hn; omega
      | nil => exact ⟨by simp [sameL], by simpa [allH] using e⟩
  | succ n ih =>
    intro l m pl pm s s' hn hl hm hpl hpm hs hs' e
    cases l with
    | nil =>
      cases m with
      | nil => exact ⟨by simp [sameL], by simpa [allH] using e⟩
      | cons b m =>
        rw [mayL, Bool.and_eq_true] at hm
        exact absurd (by simpa [allH] using e) (no_end (l := m) (s := s) (s' := s') hm.1 hpm hs)
    | cons a l =>
      cases m with
      | nil =>
        rw [mayL, Bool.and_eq_true] at hl
        exact absurd (by simpa [allH] using e.symm) (no_end (l := l) (s := s') (s' := s) hl.1 hpl hs')
      | cons b m =>
        obtain ⟨tag, txt, key, attrs, kids⟩ := a
        obtain ⟨tag', txt', key', attrs', kids'⟩ := b
        rw [mayL, Bool.and_eq_true] at hl hm
        obtain ⟨hl1, hl2⟩ := hl
        obtain ⟨hm1, hm2⟩ := hm
        rw [plL, Bool.and_eq_true, Bool.and_eq_true] at hpl hpm
        obtain ⟨⟨pa1, pa2⟩, pa3⟩ := hpl
        obtain ⟨⟨pb1, pb2⟩, pb3⟩ := hpm
        rw [plT, Bool.and_eq_true, Bool.and_eq_true] at pa1 pb1
        obtain ⟨⟨ka, sa⟩, qa⟩ := pa1
        obtain ⟨⟨kb, sb⟩, qb⟩ := pb1
        have hkey : key.toList == key'.toList := by
          rw [List.isEmpty_iff] at ka kb
          rw [ka, kb]
          decide
        have pa3 : plL l tag.toList.isEmpty = true := pa3
        have pb3 : plL m tag'.toList.isEmpty = true := pb3
        have pa2 : (!tag.toList.isEmpty || (!txt.toList.isEmpty && !pl)) = true := pa2
        have pb2 : (!tag'.toList.isEmpty || (!txt'.toList.isEmpty && !pm)) = true := pb2
        rw [countL, countL, countP, countP] at hn
        rw [allH, allH, putH, putH, List.append_assoc, List.append_assoc] at e
        rw [mayP] at hl1 hm1
        rw [sameL, sameP]
        by_cases ha : tag.toList.isEmpty = true
        · rw [if_pos ha] at e hl1
          rw [ha] at pa2 pa3
          simp only [Bool.and_eq_true] at hl1
          have hka : kids = [] := by simpa using hl1.2
          have haa : attrs = [] := by simpa using hl1.1.2
          by_cases hb : tag'.toList.isEmpty = true
          · rw [if_pos hb] at e hm1
            rw [hb] at pb3
            simp only [Bool.and_eq_true] at hm1
            have hkb : kids' = [] := by simpa using hm1.2
            have hab : attrs' = [] := by simpa using hm1.1.2
            obtain ⟨h1, h2⟩ := split_at clean60 clean60 (stop_behind pa3 hs) (stop_behind pb3 hs') e
            obtain ⟨h3, h4⟩ := ih l m true true s s' (by omega) hl2 hm2 pa3 pb3 hs hs' h2
            refine ⟨?_, h4⟩
            rw [List.isEmpty_iff] at ha hb
            rw [h3, hka, hkb, haa, hab, ha, hb, to_bytes (put_inj h1), hkey]
            simp [sameL, P3.sameA]
          · exfalso
            rw [if_neg hb] at e
            have hx : txt.data.toList ≠ [] := by
              have h1 : txt.toList.isEmpty = false := by
                simp only [Bool.not_true, Bool.false_or, Bool.and_eq_true, Bool.not_eq_true'] at pa2
                exact pa2.1
              rw [ByteArray.toList_eq] at h1
              intro e2
              rw [e2] at h1
              cases h1
            cases hq : P2.putL txt.data.toList with
            | nil => exact put_ne hx hq
            | cons c r =>
              rw [hq] at e
              simp only [List.cons_append, List.cons.injEq] at e
              exact (P2.putL_clean (l := txt.data.toList) (by rw [hq]; simp)).1 e.1
        · rw [if_neg ha] at e hl1
          by_cases hb : tag'.toList.isEmpty = true
          · exfalso
            rw [if_pos hb] at e
            rw [hb] at pb2
            have hx : txt'.data.toList ≠ [] := by
              have h1 : txt'.toList.isEmpty = false := by
                simp only [Bool.not_true, Bool.false_or, Bool.and_eq_true, Bool.not_eq_true'] at pb2
                exact pb2.1
              rw [ByteArray.toList_eq] at h1
              intro e2
              rw [e2] at h1
              cases h1
            cases hq : P2.putL txt'.data.toList with
            | nil => exact put_ne hx hq
            | cons c r =>
              rw [hq] at e
              simp only [List.cons_append, List.cons.injEq] at e
              exact (P2.putL_clean (l := txt'.data.toList) (by rw [hq]; simp)).1 e.1.symm
          · rw [if_neg hb] at e hm1
            simp only [Bool.and_eq_true] at hl1 hm1
            obtain ⟨⟨⟨⟨⟨na, _⟩, ma⟩, xa⟩, va⟩, la⟩ := hl1
            obtain ⟨⟨⟨⟨⟨nb, _⟩, mb⟩, xb⟩, vb⟩, lb⟩ := hm1
            have stopA : ∀ (ts : List P3.At) (u : List UInt8), Stop (fun c => c != 32 && c != 62) (attrsH ts ++ 62 :: u) := by
              intro ts u
              cases ts with
              | nil => exact .inr ⟨62, _, rfl, by decide⟩
              | cons c r => exact .inr ⟨32, _, rfl, by decide⟩
            have inT : ∀ {t : ByteArray}, P1.nameB t.data.toList = true → ∀ c ∈ t.data.toList, (fun c : UInt8 => c != 32 && c != 62) c = true := by
              intro t ht c hc
              have := in_ne ((name_in ht).2 c hc)
              simp [this]
            simp only [List.cons_append, List.append_assoc, List.cons.injEq, true_and] at e
            obtain ⟨h1, h2⟩ := split_at (inT na) (inT nb) (stopA _ _) (stopA _ _) e
            have attA : ∀ {ts : List P3.At}, P3.mayA ts = true → ts.all (fun a => !a.st) = true → ∀ a ∈ ts, P1.nameB a.nm.data.toList = true ∧ a.st = false := by
              intro ts h3 h4 c hc
              refine ⟨((P3.mayA_iff.1 h3).2.1 c hc).1, ?_⟩
              have := List.all_eq_true.1 h4 c hc
              simpa using this
            obtain ⟨h3, h4⟩ := attrs_one (attA ma sa) (attA mb sb) h2
            have hx : txt.toList == txt'.toList := by
              rw [List.isEmpty_iff] at xa xb
              rw [xa, xb]
              decide
            rw [← h1] at h4
            have hta : tag.toList.isEmpty = false := by simpa using ha
            have htb : tag'.toList.isEmpty = false := by simpa using hb
            rw [hta] at pa3
            rw [htb] at pb3
            cases hv : P1.voidB tag.data.toList with
            | true =>
              rw [hv] at h4 va
              rw [← h1, hv] at vb
              have hka : kids = [] := by simpa using va
              have hkb : kids' = [] := by simpa using vb
              obtain ⟨h5, h6⟩ := ih l m false false s s' (by omega) hl2 hm2 pa3 pb3 hs hs' (by simpa using h4)
              refine ⟨?_, h6⟩
              rw [h5, h3, to_bytes h1, hx, hkey, hka, hkb]
              simp [sameL]
            | false =>
              rw [hv] at h4
              have e5 : allH kids ++ 60 :: 47 :: (tag.data.toList ++ 62 :: (allH l ++ s)) = allH kids' ++ 60 :: 47 :: (tag.data.toList ++ 62 :: (allH m ++ s')) := by simpa using h4
              obtain ⟨h5, h6⟩ := ih kids kids' false false _ _ (by omega) la lb qa qb (.inr ⟨_, rfl⟩) (.inr ⟨_, rfl⟩) e5
              simp only [List.cons.injEq, true_and, List.append_cancel_left_eq] at h6
              obtain ⟨h7, h8⟩ := ih l m false false s s' (by omega) hl2 hm2 pa3 pb3 hs hs' h6
              refine ⟨?_, h8⟩
              rw [h7, h5, h3, to_bytes h1, hx, hkey]
              simp
/-- trees that are the same are put alike -/
theorem same_put (a : PT) : ∀ b, sameP a b = true → putH a = putH b := by
  induction a using PT.ind with
  | h tag txt key attrs kids ih =>
    have keyL : ∀ (l m : List PT), (∀ k ∈ l, k ∈ kids) → sameL l m = true → allH l = allH m := by
      intro l
      induction l with
      | nil => intro m _ h; cases m <;> simp_all [sameL, allH]
      | cons a l ihl =>
        intro m hl h
        cases m with
        | nil => simp [sameL] at h
        | cons b m =>
          rw [sameL, Bool.and_eq_true] at h
          rw [allH, allH, ih a (hl a (by simp)) b h.1, ihl m (fun k hk => hl k (by simp [hk])) h.2]
    intro b h
    obtain ⟨tag', txt', key', attrs', kids'⟩ := b
    rw [sameP] at h
    simp only [Bool.and_eq_true, beq_iff_eq] at h
    obtain ⟨⟨⟨⟨h1, h2⟩, h3⟩, h4⟩, h5⟩ := h
    have h6 := keyL kids kids' (fun _ h => h) h5
    rw [putH, putH, h2, attrs_same h1, h6]
    have h7 : tag.data.toList = tag'.data.toList := by rw [← ByteArray.toList_eq, ← ByteArray.toList_eq, h2]
    have h8 : txt.data.toList = txt'.data.toList := by rw [← ByteArray.toList_eq, ← ByteArray.toList_eq, h3]
    rw [h7, h8]
theorem put_one {a b : PT} (ha : mayP a = true) (hb : mayP b = true) (pa : plL [a] false = true) (pb : plL [b] false = true) : (putH a = putH b) ↔ sameP a b = true := by
  refine ⟨fun e => ?_, fun h => same_put a b h⟩
  have := (uniq _ [a] [b] false false [] [] (Nat.le_refl _) (by simp [mayL, ha]) (by simp [mayL, hb]) pa pb (.inl rfl) (.inl rfl) (by simpa [allH] using e)).1
  simpa [sameL] using this
end Go.Proofs.Ythdgaoifbejpjaa.P9
