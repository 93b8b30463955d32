/- Which programs may be, reckoned place by place: the same as what XPlain13 reckons. No condition. -/
import Derived.Test.YtfjnbjpenibpkaaM10
set_option linter.unusedVariables false
set_option linter.unusedSimpArgs false
set_option linter.unusedVariables false
set_option linter.unusedSimpArgs false
namespace Go.Proofs.Ytfjnbjpenibpkaa.P13
open Go.RowKit Kd P4 P11 P12

/-- the names that were told of the element at hand, behind k instructions; none: no attribute may be told -/
def stepN (s : Option (List (List UInt8))) (x : In) : Option (List (List UInt8)) :=
  if makesO x.op then some [] else if tellsO x.op then s.map (· ++ [x.a.toList]) else none
def namesK (l : List In) : Nat → Option (List (List UInt8))
  | 0 => none
  | k + 1 => match l[k]? with
    | some x => stepN (namesK l k) x
    | none => namesK l k
def attrN (s : Option (List (List UInt8))) (a : List UInt8) (n : Nat) : Nat := match s with
  | none => 9
  | some ns => if a ∈ ns ∨ 8 ≤ n + ns.length then 9 else 0
theorem makes_not_tells {op : Int} (h : makesO op = true) : tellsO op = false := by
  simp only [makesO, tellsO, decide_eq_true_eq, decide_eq_false_iff_not] at h ⊢
  omega
theorem stepN_makes {s : Option (List (List UInt8))} {x : In} (h : makesO x.op = true) : stepN s x = some [] := by rw [stepN, if_pos h]
theorem stepN_tells {s : Option (List (List UInt8))} {x : In} (h : tellsO x.op = true) : stepN s x = s.map (· ++ [x.a.toList]) := by
  rw [stepN, if_neg (fun e => by rw [makes_not_tells e] at h; cases h), if_pos h]
theorem stepN_other {s : Option (List (List UInt8))} {x : In} (h : makesO x.op = false) (h' : tellsO x.op = false) : stepN s x = none := by
  rw [stepN, if_neg (by rw [h]; decide), if_neg (by rw [h']; decide)]
theorem attrN_some (ns : List (List UInt8)) (a : List UInt8) (n : Nat) : attrN (some ns) a n = if a ∈ ns ∨ 8 ≤ n + ns.length then 9 else 0 := rfl
theorem attrN_none (a : List UInt8) (n : Nat) : attrN none a n = 9 := rfl
theorem attrD_names (l : List In) (a : List UInt8) : ∀ (k n : Nat), k ≤ l.length → attrD l a k n = attrN (namesK l k) a n
  | 0, n, _ => rfl
  | k + 1, n, h => by
    have hk : k < l.length := by omega
    have ih := attrD_names l a k
    rw [attrD, namesK, List.getElem?_eq_getElem hk]
    simp only
    generalize l[k] = x
    by_cases hm : makesO x.op = true
    · rw [makes_not_tells hm, stepN_makes hm, attrN_some, if_neg (by decide), hm]
      by_cases h8 : 8 ≤ n
      · rw [if_pos h8, if_pos (.inr (by simpa using h8))]
      · rw [if_neg h8, if_pos rfl, if_neg (by simpa using h8)]
    · by_cases ht : tellsO x.op = true
      · rw [if_pos ht, ih (n + 1) (by omega), stepN_tells ht]
        cases namesK l k with
        | none =>
          rw [Option.map_none, attrN_none, attrN_none]
          split <;> rfl
        | some ns =>
          rw [Option.map_some, attrN_some, attrN_some]
          simp only [List.mem_append, List.mem_singleton, List.length_append, List.length_singleton]
          by_cases ha : x.a.toList = a
          · rw [if_pos ha, if_pos (.inl (.inr ha.symm))]
          · have e : ¬ a = x.a.toList := fun e => ha e.symm
            rw [if_neg ha]
            by_cases hn : a ∈ ns
            · rw [if_pos (.inl hn), if_pos (.inl (.inl hn))]
            · by_cases h8 : 8 ≤ n + 1 + ns.length
              · rw [if_pos (.inr h8), if_pos (.inr (by omega))]
              · rw [if_neg (fun o => o.elim hn h8), if_neg (fun o => o.elim (fun o => o.elim hn e) (fun h => h8 (by omega)))]
      · have ht : tellsO x.op = false := by simpa using ht
        have hm : makesO x.op = false := by simpa using hm
        rw [stepN_other hm ht, attrN_none, ht, hm]
        by_cases h8 : 8 ≤ n <;> simp [h8]
/-- what stands at each place that is open, behind k instructions; the last one opened last -/
def stepP (s : List (List In)) (x : In) : List (List In) :=
  if x.op = 1 then s.dropLast ++ [(s.getLast?.getD []) ++ [x], []] else if x.op = 2 then s.dropLast else s.dropLast ++ [(s.getLast?.getD []) ++ [x]]
def placesK (l : List In) : Nat → List (List In)
  | 0 => [[]]
  | k + 1 => match l[k]? with
    | some x => stepP (placesK l k) x
    | none => placesK l k
theorem placesK_step {l : List In} {k : Nat} (h : k < l.length) : placesK l (k + 1) = stepP (placesK l k) l[k] := by
  rw [placesK, List.getElem?_eq_getElem h]
theorem namesK_step {l : List In} {k : Nat} (h : k < l.length) : namesK l (k + 1) = stepN (namesK l k) l[k] := by
  rw [namesK, List.getElem?_eq_getElem h]
/-- where place t begins -/
def posK (l : List In) (k t : Nat) : Int := if t = 0 then 0 else (opensK l k).getD (t - 1) 0
theorem posK_le (l : List In) (k t : Nat) : 0 ≤ posK l k t ∧ posK l k t ≤ k := by
  unfold posK
  split
  · omega
  · rw [List.getD_eq_getElem?_getD]
    cases h : (opensK l k)[t - 1]? with
    | none => simp
    | some p =>
      obtain ⟨h1, h2⟩ := List.getElem?_eq_some_iff.1 h
      have := opensK_in l k p (h2 ▸ List.getElem_mem h1)
      simp only [Option.getD_some]
      omega
def foldA (l : List In) (k : Nat) (p : Int) : List In × Int := ((l.take k).drop p.toNat).foldl stepA ([], 0)
theorem foldA_snoc {l : List In} {k : Nat} (h : k < l.length) {p : Int} (hp : p ≤ k) : foldA l (k + 1) p = stepA (foldA l k p) l[k] := by
  unfold foldA
  rw [List.take_add_one, List.getElem?_eq_getElem h, Option.toList_some, List.drop_append_of_le_length (by rw [List.length_take]; omega), List.foldl_append]
  rfl
/-- places and where they begin -/
structure Pls (l : List In) (k : Nat) : Prop where
  len : (placesK l k).length = (opensK l k).length + 1
  at_ : ∀ t (h : t < (placesK l k).length), foldA l k (posK l k t) = ((placesK l k)[t], ((opensK l k).length : Int) - t)
theorem pls_zero (l : List In) : Pls l 0 := ⟨rfl, fun t h => by
  simp only [placesK, List.length_singleton] at h
  obtain rfl : t = 0 := by omega
  simp [foldA, placesK, opensK]⟩
theorem getLastD_at {s : List (List In)} {d : Nat} (hd : d < s.length) (h : s.length = d + 1) : s.getLast?.getD [] = s[d] := by
  have e : s[s.length - 1]? = some s[d] := by
    rw [show s.length - 1 = d by omega]
    exact List.getElem?_eq_getElem hd
  rw [List.getLast?_eq_getElem?, e]
  rfl
theorem pls_step {l : List In} {k : Nat} (hk : k < l.length) (h : Pls l k) (hc : l[k].op = 2 → 0 < (opensK l k).length) : Pls l (k + 1) := by
  have hP := placesK_step hk
  have hO := opensK_step hk
  have hF : ∀ t, foldA l (k + 1) (posK l k t) = stepA (foldA l k (posK l k t)) l[k] := fun t => foldA_snoc hk (posK_le l k t).2
  obtain ⟨d, hd⟩ : ∃ d, (opensK l k).length = d := ⟨_, rfl⟩
  have hl := h.len
  have hat := h.at_
  rw [hd] at hl hat hc
  have hlast := getLastD_at (s := placesK l k) (d := d) (by omega) hl
  generalize l[k] = x at hP hO hF hc
  have hdl : (placesK l k).dropLast.length = d := by rw [List.length_dropLast, hl]; omega
  have hdg : ∀ t (h1 : t < (placesK l k).dropLast.length), (placesK l k).dropLast[t] = (placesK l k)[t]'(by rw [List.length_dropLast] at h1; omega) := fun t h1 => List.getElem_dropLast h1
  by_cases h1 : x.op = 1
  · have eP : placesK l (k + 1) = (placesK l k).dropLast ++ [(placesK l k)[d]'(by omega) ++ [x], []] := by rw [hP, stepP, if_pos h1, hlast]
    have eO : opensK l (k + 1) = opensK l k ++ [(k : Int) + 1] := by rw [hO, stepB, if_pos h1]
    have dl : deltaO x.op = 1 := by rw [deltaO, if_pos h1]
    have pos : ∀ t, t ≤ d → posK l (k + 1) t = posK l k t := fun t ht => by
      unfold posK
      split
      · rfl
      · rw [eO, List.getD_eq_getElem?_getD, List.getD_eq_getElem?_getD, List.getElem?_append_left (by omega)]
    refine ⟨by rw [eP, eO]; simp [hdl, hd], fun t ht => ?_⟩
    have ht2 : t < d + 2 := by rw [eP] at ht; simpa [hdl] using ht
    have hlen : ((opensK l (k + 1)).length : Int) = d + 1 := by rw [eO]; simp [hd]
    rw [hlen]
    by_cases ht3 : t < d
    · rw [pos t (by omega), hF, hat t (by omega), stepA, dl]
      simp only
      rw [if_neg (by omega)]
      congr 1
      · rw [List.getElem_of_eq eP, List.getElem_append_left (by omega), hdg]
      · omega
    · by_cases ht4 : t = d
      · subst ht4
        rw [pos t (by omega), hF, hat t (by omega), stepA, dl]
        simp only
        rw [if_pos ⟨by omega, by omega⟩]
        congr 1
        · rw [List.getElem_of_eq eP, List.getElem_append_right (by omega)]
          simp [hdl]
        · omega
      · obtain rfl : t = d + 1 := by omega
        have e : posK l (k + 1) (d + 1) = (k : Int) + 1 := by
          unfold posK
          rw [if_neg (by omega), eO, List.getD_eq_getElem?_getD, Nat.add_sub_cancel, List.getElem?_append_right (by omega)]
          simp [hd]
        rw [e]
        have e2 : foldA l (k + 1) ((k : Int) + 1) = ([], 0) := by
          unfold foldA
          rw [List.drop_of_length_le (by rw [List.length_take]; omega)]
          rfl
        rw [e2]
        congr 1
        · rw [List.getElem_of_eq eP, List.getElem_append_right (by omega)]
          simp [hdl]
        · omega
  · by_cases h2 : x.op = 2
    · have hd0 := hc h2
      have eP : placesK l (k + 1) = (placesK l k).dropLast := by rw [hP, stepP, if_neg h1, if_pos h2]
      have eO : opensK l (k + 1) = (opensK l k).dropLast := by rw [hO, stepB, if_neg h1, if_pos h2]
      have dl : deltaO x.op = -1 := by rw [deltaO, if_neg h1, if_pos h2]
      refine ⟨by rw [eP, eO, hdl, List.length_dropLast]; omega, fun t ht => ?_⟩
      have ht2 : t < d := by rw [eP] at ht; omega
      have hlen : ((opensK l (k + 1)).length : Int) = d - 1 := by rw [eO, List.length_dropLast]; omega
      have pos : posK l (k + 1) t = posK l k t := by
        unfold posK
        split
        · rfl
        · rw [eO, List.getD_eq_getElem?_getD, List.getD_eq_getElem?_getD, List.dropLast_eq_take, List.getElem?_take, if_pos (by omega)]
      rw [hlen, pos, hF, hat t (by omega), stepA, dl]
      simp only
      rw [if_neg (by rintro ⟨_, e⟩; exact e h2)]
      congr 1
      · rw [List.getElem_of_eq eP, hdg]
      · omega
    · have eP : placesK l (k + 1) = (placesK l k).dropLast ++ [(placesK l k)[d]'(by omega) ++ [x]] := by rw [hP, stepP, if_neg h1, if_neg h2, hlast]
      have eO : opensK l (k + 1) = opensK l k := by rw [hO, stepB, if_neg h1, if_neg h2]
      have dl : deltaO x.op = 0 := by rw [deltaO, if_neg h1, if_neg h2]
      have pos : ∀ t, posK l (k + 1) t = posK l k t := fun t => by unfold posK; rw [eO]
      refine ⟨by rw [eP, eO]; simp [hdl, hd], fun t ht => ?_⟩
      have ht2 : t < d + 1 := by rw [eP] at ht; simpa [hdl] using ht
      rw [eO, hd, pos t, hF, hat t (by omega), stepA, dl]
      simp only
      by_cases ht3 : t < d
      · rw [if_neg (by omega)]
        congr 1
        · rw [List.getElem_of_eq eP, List.getElem_append_left (by omega), hdg]
        · omega
      · obtain rfl : t = d := by omega
        rw [if_pos ⟨by omega, h2⟩]
        congr 1
        · rw [List.getElem_of_eq eP, List.getElem_append_right (by omega)]
          simp [hdl]
        · omega
theorem pls_of {l : List In} : ∀ {k : Nat}, k ≤ l.length → firstW l k = 0 → Pls l k
  | 0, _, _ => pls_zero l
  | k + 1, hk, hf => by
    have hkl : k < l.length := by omega
    have h0 : firstW l k = 0 := by
      rw [firstW] at hf
      split at hf
      · assumption
      · exact hf
    have hw : wrongP l k = 0 := by rw [firstW, if_pos h0] at hf; exact hf
    refine pls_step hkl (pls_of (by omega) h0) (fun h2 => ?_)
    rw [wrongP, List.getElem?_eq_getElem hkl] at hw
    simp only [wrongAt] at hw
    have ht : tellsO l[k].op = false := by simp [tellsO, h2]
    rw [ht, if_neg (by decide : ¬ (false = true)), if_pos h2] at hw
    split at hw
    · cases hw
    · split at hw
      · cases hw
      · rename_i h
        rw [beginP_snd] at h
        omega
/-- what stands ahead at an instruction's place -/
def lastP (s : List (List In)) : List In := s.getLast?.getD []
theorem ahead_places {l : List In} {k : Nat} (h : Pls l k) : aheadP l k = lastP (placesK l k) := by
  obtain ⟨d, hd⟩ : ∃ d, (opensK l k).length = d := ⟨_, rfl⟩
  have hl := h.len
  rw [hd] at hl
  have hat := h.at_ d (by omega)
  rw [lastP, getLastD_at (s := placesK l k) (d := d) (by omega) hl]
  have e : (beginP l k).1 = posK l k d := by
    unfold posK
    rcases Nat.eq_zero_or_pos d with e | e
    · rw [if_pos e, beginP_none (by omega)]
    · obtain ⟨m, rfl⟩ : ∃ m, d = m + 1 := ⟨d - 1, by omega⟩
      rw [if_neg (by omega), beginP_some (by omega) hd, Nat.add_sub_cancel, List.getD_eq_getElem?_getD, List.getElem?_eq_getElem (by omega)]
      rfl
  have e2 : aheadP l k = (foldA l k (posK l k d)).1 := by rw [aheadP, foldA, e]
  rw [e2, hat]
/-- an instruction's error, place by place -/
def wrongV (places : List (List In)) (names : Option (List (List UInt8))) (x : In) : Nat :=
  if mayI x = false then 7
  else if tellsO x.op then attrN names x.a.toList 0
  else if x.op = 2 then (if places.length ≤ 1 then 8 else 0)
  else if (lastP places).any (fun y => decide (y.op = 7)) then 11
  else if makesO x.op && !x.b.toList.isEmpty && (lastP places).any (keyB x) then 10
  else if x.op = 1 ∧ 9 ≤ places.length then 12
  else 0
theorem wrong_places {l : List In} {k : Nat} (hk : k < l.length) (hf : firstW l k = 0) : wrongP l k = wrongV (placesK l k) (namesK l k) l[k] := by
  have hp := pls_of (by omega) hf
  have hl := hp.len
  rw [wrongP, List.getElem?_eq_getElem hk]
  simp only [wrongAt, wrongV]
  rw [attrD_names l _ k 0 (by omega), ahead_places hp, beginP_snd, hl]
  have e1 : ((opensK l k).length = 0) = ((opensK l k).length + 1 ≤ 1) := by simp only [eq_iff_iff]; omega
  have e2 : (8 ≤ (opensK l k).length) = (9 ≤ (opensK l k).length + 1) := by simp only [eq_iff_iff]; omega
  simp only [e1, e2]
end Go.Proofs.Ytfjnbjpenibpkaa.P13
