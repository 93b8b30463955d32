/- Trees told by functions: who is there, whose parent is who, whose children are who; leaving, coming, going; all below one. No condition. -/
set_option linter.unusedVariables false
set_option linter.unusedSimpArgs false
set_option linter.unusedVariables false
set_option linter.unusedSimpArgs false
namespace Go.Proofs.Ytfjnbjpenibpkaa.P5

/-- k steps up -/
def it (P : Int → Int) : Nat → Int → Int
  | 0, y => y
  | k + 1, y => it P k (P y)
theorem it_succ (P : Int → Int) : ∀ (k : Nat) (y : Int), it P (k + 1) y = P (it P k y)
  | 0, _ => rfl
  | k + 1, y => it_succ P k (P y)
theorem it_add (P : Int → Int) : ∀ (j k : Nat) (y : Int), it P (j + k) y = it P k (it P j y)
  | 0, k, y => by rw [Nat.zero_add]; rfl
  | j + 1, k, y => by rw [show j + 1 + k = (j + k) + 1 by omega]; exact it_add P j k (P y)

structure Tr (H : Int → Prop) (P : Int → Int) (K : Int → List Int) : Prop where
  z : ¬ H 0
  p0 : ∀ y, ¬ H y → P y = 0
  kid : ∀ x c, c ∈ K x → H x ∧ H c ∧ P c = x
  par : ∀ y, P y ≠ 0 → y ∈ K (P y)
  nod : ∀ x, (K x).Nodup
  acy : ∀ y, ∃ k, it P k y = 0

theorem nodup_len : ∀ (xs L : List Int), xs.Nodup → (∀ x ∈ xs, x ∈ L) → xs.length ≤ L.length
  | [], _, _, _ => by simp
  | x :: r, L, hn, hs => by
    have hx : x ∈ L := hs x (by simp)
    obtain ⟨h1, h2⟩ := List.nodup_cons.1 hn
    have := nodup_len r (L.erase x) h2 (fun y hy => (List.mem_erase_of_ne (by rintro rfl; exact h1 hy)).2 (hs y (by simp [hy])))
    rw [List.length_erase_of_mem hx] at this
    have hp : 0 < L.length := List.length_pos_of_mem hx
    simp only [List.length_cons]
    omega

section
variable {H : Int → Prop} {P : Int → Int} {K : Int → List Int}
theorem Tr.zero (h : Tr H P K) : P 0 = 0 := h.p0 0 h.z
theorem Tr.it0 (h : Tr H P K) : ∀ k, it P k 0 = 0
  | 0 => rfl
  | k + 1 => by show it P k (P 0) = 0; rw [h.zero]; exact h.it0 k
theorem Tr.it_ge (h : Tr H P K) {k j : Nat} {y : Int} (hk : it P k y = 0) (hj : k ≤ j) : it P j y = 0 := by
  obtain ⟨d, rfl⟩ := Nat.exists_eq_add_of_le hj
  rw [it_add, hk, h.it0]
theorem Tr.ne0 (h : Tr H P K) {y : Int} (hy : H y) : y ≠ 0 := fun e => h.z (e ▸ hy)
theorem Tr.hpar (h : Tr H P K) {y : Int} (hy : P y ≠ 0) : H (P y) := (h.kid _ _ (h.par y hy)).1
theorem Tr.h_of (h : Tr H P K) {y : Int} (hy : P y ≠ 0) : H y := (h.kid _ _ (h.par y hy)).2.1
theorem Tr.k0 (h : Tr H P K) {x : Int} (hx : ¬ H x) : K x = [] := by
  cases e : K x with
  | nil => rfl
  | cons c r => exact absurd (h.kid x c (by rw [e]; simp)).1 hx
theorem Tr.h_it (h : Tr H P K) {y : Int} (hy : H y) : ∀ i, it P i y ≠ 0 → H (it P i y)
  | 0, _ => hy
  | i + 1, hi => by rw [it_succ] at hi ⊢; exact h.hpar hi

/-- the first step at which nothing is above -/
def Dep (P : Int → Int) (y : Int) (k : Nat) : Prop := it P k y = 0 ∧ ∀ i, i < k → it P i y ≠ 0
theorem dep_of (P : Int → Int) : ∀ (k : Nat) (y : Int), it P k y = 0 → ∃ j, j ≤ k ∧ Dep P y j
  | 0, y, h => ⟨0, Nat.le_refl _, h, fun i hi => absurd hi (by omega)⟩
  | k + 1, y, h => by
    by_cases hy : y = 0
    · exact ⟨0, by omega, hy, fun i hi => absurd hi (by omega)⟩
    · obtain ⟨j, hj, h1, h2⟩ := dep_of P k (P y) h
      refine ⟨j + 1, by omega, h1, fun i hi => ?_⟩
      cases i with
      | zero => exact hy
      | succ i => exact h2 i (by omega)
theorem Tr.dep (h : Tr H P K) (y : Int) : ∃ k, Dep P y k := by
  obtain ⟨k, hk⟩ := h.acy y
  obtain ⟨j, _, hj⟩ := dep_of P k y hk
  exact ⟨j, hj⟩
theorem Tr.dep_inj (h : Tr H P K) {y : Int} {k : Nat} (hd : Dep P y k) {i j : Nat} (hij : i < j) (hj : j < k) : it P i y ≠ it P j y := by
  intro e
  have e2 : it P (i + (k - j)) y = it P (j + (k - j)) y := by rw [it_add, it_add, e]
  rw [show j + (k - j) = k by omega, hd.1] at e2
  exact hd.2 _ (by omega) e2
theorem Tr.dep_le (h : Tr H P K) {L : List Int} (hL : ∀ y, H y → y ∈ L) {y : Int} (hy : H y) {k : Nat} (hd : Dep P y k) : k ≤ L.length := by
  have := nodup_len ((List.range k).map fun i => it P i y) L ?_ ?_
  · simpa using this
  · rw [List.Nodup, List.pairwise_map]
    refine List.Pairwise.imp_of_mem ?_ List.pairwise_lt_range
    intro i j hi hj hij
    exact h.dep_inj hd hij (List.mem_range.1 hj)
  · intro x hx
    obtain ⟨i, hi, rfl⟩ := List.mem_map.1 hx
    exact hL _ (h.h_it hy i (hd.2 i (List.mem_range.1 hi)))
theorem Dep.kid {c y : Int} {k : Nat} (hc : c ≠ 0) (hp : P c = y) (hd : Dep P y k) : Dep P c (k + 1) := by
  subst hp
  refine ⟨hd.1, fun i hi => ?_⟩
  cases i with
  | zero => exact hc
  | succ i => exact hd.2 i (by omega)

/-! ### Leaving, coming, going -/
def setF {α : Type} (F : Int → α) (i : Int) (v : α) (y : Int) : α := if y = i then v else F y
theorem setF_same {α : Type} (F : Int → α) (i : Int) (v : α) : setF F i v i = v := by simp [setF]
theorem setF_ne {α : Type} (F : Int → α) {i y : Int} (v : α) (h : y ≠ i) : setF F i v y = F y := by simp [setF, h]
theorem acy_to (P Q : Int → Int) (i : Int) (hi : ∃ k, it Q k i = 0) (hQ : ∀ y, y ≠ i → Q y = P y) : ∀ (k : Nat) (y : Int), it P k y = 0 → ∃ j, it Q j y = 0
  | 0, y, h => ⟨0, h⟩
  | k + 1, y, h => by
    by_cases e : y = i
    · subst e; exact hi
    · obtain ⟨j, hj⟩ := acy_to P Q i hi hQ k (P y) h
      exact ⟨j + 1, by show it Q j (Q y) = 0; rw [hQ y e]; exact hj⟩
theorem Tr.leave (h : Tr H P K) (i : Int) : Tr H (setF P i 0) (setF K (P i) ((K (P i)).filter fun c => decide (c ≠ i))) := by
  have key : ∀ x c, c ∈ setF K (P i) ((K (P i)).filter fun c => decide (c ≠ i)) x ↔ c ∈ K x ∧ c ≠ i := by
    intro x c
    by_cases e : x = P i
    · subst e; rw [setF_same]; simp
    · rw [setF_ne _ _ e]
      refine ⟨fun hc => ⟨hc, ?_⟩, fun hc => hc.1⟩
      rintro rfl
      exact e (h.kid _ _ hc).2.2.symm
  refine ⟨h.z, fun y hy => ?_, fun x c hc => ?_, fun y hy => ?_, fun x => ?_, fun y => ?_⟩
  · by_cases e : y = i
    · subst e; rw [setF_same]
    · rw [setF_ne _ _ e]; exact h.p0 y hy
  · obtain ⟨h1, h2⟩ := (key x c).1 hc
    obtain ⟨a, b, d⟩ := h.kid x c h1
    exact ⟨a, b, by rw [setF_ne _ _ h2]; exact d⟩
  · by_cases e : y = i
    · subst e; rw [setF_same] at hy; exact absurd rfl hy
    · rw [setF_ne _ _ e] at hy ⊢
      exact (key _ _).2 ⟨h.par y hy, e⟩
  · by_cases e : x = P i
    · subst e; rw [setF_same]; exact (h.nod _).filter _
    · rw [setF_ne _ _ e]; exact h.nod x
  · obtain ⟨k, hk⟩ := h.acy y
    refine acy_to P _ i ⟨1, ?_⟩ (fun z hz => setF_ne _ _ hz) k y hk
    show setF P i 0 i = 0
    exact setF_same _ _ _
theorem Tr.come (h : Tr H P K) {i p : Int} (hi : H i) (hp : H p) (h0 : P i = 0) (hno : ∀ j, it P j p ≠ i) {L : List Int} (hL : ∀ c, c ∈ L ↔ c = i ∨ c ∈ K p) (hn : L.Nodup) : Tr H (setF P i p) (setF K p L) := by
  have hp0 := h.ne0 hp
  refine ⟨h.z, fun y hy => ?_, fun x c hc => ?_, fun y hy => ?_, fun x => ?_, fun y => ?_⟩
  · by_cases e : y = i
    · subst e; exact absurd hi hy
    · rw [setF_ne _ _ e]; exact h.p0 y hy
  · by_cases e : x = p
    · subst e
      rw [setF_same] at hc
      rcases (hL c).1 hc with rfl | hc
      · exact ⟨hp, hi, setF_same _ _ _⟩
      · obtain ⟨a, b, d⟩ := h.kid x c hc
        exact ⟨a, b, by rw [setF_ne _ _ (by rintro rfl; exact hp0 (d.symm.trans h0))]; exact d⟩
    · rw [setF_ne _ _ e] at hc
      obtain ⟨a, b, d⟩ := h.kid x c hc
      exact ⟨a, b, by rw [setF_ne _ _ (by rintro rfl; rw [h0] at d; subst d; exact h.z a)]; exact d⟩
  · by_cases e : y = i
    · subst e; rw [setF_same, setF_same]; exact (hL y).2 (.inl rfl)
    · rw [setF_ne _ _ e] at hy ⊢
      have := h.par y hy
      by_cases e2 : P y = p
      · rw [e2, setF_same]; exact (hL y).2 (.inr (e2 ▸ this))
      · rw [setF_ne _ _ e2]; exact this
  · by_cases e : x = p
    · subst e; rw [setF_same]; exact hn
    · rw [setF_ne _ _ e]; exact h.nod x
  · have same : ∀ j, it (setF P i p) j p = it P j p := by
      intro j
      induction j with
      | zero => rfl
      | succ j ih => rw [it_succ, it_succ, ih, setF_ne _ _ (hno j)]
    obtain ⟨kp, hkp⟩ := h.acy p
    obtain ⟨k, hk⟩ := h.acy y
    refine acy_to P _ i ⟨kp + 1, ?_⟩ (fun z hz => setF_ne _ _ hz) k y hk
    show it (setF P i p) kp (setF P i p i) = 0
    rw [setF_same, same]; exact hkp
theorem Tr.go (h : Tr H P K) {i : Int} (S : Int → Prop) (h0 : P i = 0) (hk : ∀ x c, S x → c ∈ K x → S c) (hp : ∀ c, S c → c ≠ i → S (P c))
    {P' : Int → Int} {K' : Int → List Int} (hP1 : ∀ y, S y → P' y = 0) (hP2 : ∀ y, ¬ S y → P' y = P y) (hK1 : ∀ y, S y → K' y = []) (hK2 : ∀ y, ¬ S y → K' y = K y) : Tr (fun y => H y ∧ ¬ S y) P' K' := by
  have dec : ∀ y, S y ∨ ¬ S y := fun y => Classical.em _
  refine ⟨fun h1 => h.z h1.1, fun y hy => ?_, fun x c hc => ?_, fun y hy => ?_, fun x => ?_, fun y => ?_⟩
  · rcases dec y with e | e
    · exact hP1 y e
    · rw [hP2 y e]; exact h.p0 y (fun hh => hy ⟨hh, e⟩)
  · rcases dec x with e | e
    · rw [hK1 x e] at hc; simp at hc
    · rw [hK2 x e] at hc
      obtain ⟨a, b, d⟩ := h.kid x c hc
      have hs : ¬ S c := by
        intro hs
        by_cases e2 : c = i
        · subst e2; rw [h0] at d; subst d; exact h.z a
        · exact e (d ▸ hp c hs e2)
      exact ⟨⟨a, e⟩, ⟨b, hs⟩, by rw [hP2 c hs]; exact d⟩
  · rcases dec y with e | e
    · exact absurd (hP1 y e) hy
    · rw [hP2 y e] at hy ⊢
      have hm := h.par y hy
      have : ¬ S (P y) := fun hs => e (hk _ _ hs hm)
      rw [hK2 _ this]; exact hm
  · rcases dec x with e | e
    · rw [hK1 x e]; exact List.nodup_nil
    · rw [hK2 x e]; exact h.nod x
  · have : ∀ (k : Nat) (y : Int), it P k y = 0 → ∃ j, it P' j y = 0 := by
      intro k
      induction k with
      | zero => exact fun y hy => ⟨0, hy⟩
      | succ k ih =>
        intro y hy
        rcases dec y with e | e
        · exact ⟨1, hP1 y e⟩
        · obtain ⟨j, hj⟩ := ih (P y) hy
          exact ⟨j + 1, by show it P' j (P' y) = 0; rw [hP2 y e]; exact hj⟩
    obtain ⟨k, hk'⟩ := h.acy y
    exact this k y hk'

/-! ### All below one -/
def sub (K : Int → List Int) : Nat → Int → List Int
  | 0, _ => []
  | f + 1, x => x :: (K x).flatMap (sub K f)
/-- what is below x ends within f steps -/
def Hb (K : Int → List Int) : Nat → Int → Prop
  | 0, _ => False
  | f + 1, x => ∀ c ∈ K x, Hb K f c
theorem sub_self {f : Nat} {x : Int} (h : Hb K f x) : x ∈ sub K f x := by
  cases f with
  | zero => exact h.elim
  | succ f => simp [sub]
theorem sub_kid : ∀ (f : Nat) (x y c : Int), Hb K f x → y ∈ sub K f x → c ∈ K y → c ∈ sub K f x
  | 0, _, _, _, h, _, _ => h.elim
  | f + 1, x, y, c, h, hy, hc => by
    simp only [sub, List.mem_cons, List.mem_flatMap] at hy ⊢
    rcases hy with rfl | ⟨d, hd, hy⟩
    · exact .inr ⟨c, hc, sub_self (h c hc)⟩
    · exact .inr ⟨d, hd, sub_kid f d y c (h d hd) hy hc⟩
theorem Tr.sub_par (h : Tr H P K) : ∀ (f : Nat) (x y : Int), Hb K f x → y ∈ sub K f x → y ≠ x → P y ∈ sub K f x
  | 0, _, _, hb, _, _ => hb.elim
  | f + 1, x, y, hb, hy, hne => by
    simp only [sub, List.mem_cons, List.mem_flatMap] at hy ⊢
    rcases hy with rfl | ⟨d, hd, hy⟩
    · exact absurd rfl hne
    · by_cases e : y = d
      · subst e; exact .inl (h.kid _ _ hd).2.2
      · exact .inr ⟨d, hd, h.sub_par f d y (hb d hd) hy e⟩
theorem Tr.sub_it (h : Tr H P K) : ∀ (f : Nat) (x y : Int), y ∈ sub K f x → ∃ j, it P j y = x
  | 0, _, _, hy => by simp [sub] at hy
  | f + 1, x, y, hy => by
    simp only [sub, List.mem_cons, List.mem_flatMap] at hy
    rcases hy with rfl | ⟨d, hd, hy⟩
    · exact ⟨0, rfl⟩
    · obtain ⟨j, hj⟩ := h.sub_it f d y hy
      exact ⟨j + 1, by rw [it_succ, hj]; exact (h.kid _ _ hd).2.2⟩
theorem Tr.sub_h (h : Tr H P K) : ∀ (f : Nat) (x y : Int), H x → y ∈ sub K f x → H y
  | 0, _, _, _, hy => by simp [sub] at hy
  | f + 1, x, y, hx, hy => by
    simp only [sub, List.mem_cons, List.mem_flatMap] at hy
    rcases hy with rfl | ⟨d, hd, hy⟩
    · exact hx
    · exact h.sub_h f d y (h.kid _ _ hd).2.1 hy
/-- none is above itself -/
theorem Tr.no_cycle (h : Tr H P K) {x : Int} (hx : x ≠ 0) {j : Nat} (hj : it P (j + 1) x = x) : False := by
  have : ∀ m, it P (m * (j + 1)) x = x := by
    intro m
    induction m with
    | zero => rw [Nat.zero_mul]; rfl
    | succ m ih => rw [Nat.succ_mul, it_add, ih, hj]
  obtain ⟨k, hk⟩ := h.acy x
  have h2 := h.it_ge (j := k * (j + 1)) hk (Nat.le_mul_of_pos_right _ (by omega))
  rw [this] at h2
  exact hx h2
theorem Tr.sub_apart (h : Tr H P K) {x c d e : Int} {i j : Nat} (hc : c ∈ K x) (hd : d ∈ K x) (hi : it P i e = c) (hj : it P j e = d) (hij : i < j) : False := by
  obtain ⟨m, rfl⟩ : ∃ m, j = i + (m + 1) := ⟨j - i - 1, by omega⟩
  rw [it_add, hi] at hj
  obtain ⟨hx, hcH, hcx⟩ := h.kid _ _ hc
  obtain ⟨_, _, hdx⟩ := h.kid _ _ hd
  have h1 : it P (m + 1) x = x := by
    have : it P (m + 1 + 1) c = x := by rw [it_succ, hj, hdx]
    have h2 : it P (1 + (m + 1)) c = x := by rw [Nat.add_comm]; exact this
    rw [it_add] at h2
    have h3 : it P 1 c = x := hcx
    rwa [h3] at h2
  exact h.no_cycle (h.ne0 hx) h1
theorem Tr.sub_nodup (h : Tr H P K) : ∀ (f : Nat) (x : Int), H x → (sub K f x).Nodup
  | 0, _, _ => List.nodup_nil
  | f + 1, x, hx => by
    rw [sub, List.nodup_cons]
    refine ⟨fun hm => ?_, ?_⟩
    · obtain ⟨c, hc, hm⟩ := List.mem_flatMap.1 hm
      obtain ⟨j, hj⟩ := h.sub_it f c x hm
      exact h.no_cycle (h.ne0 hx) (j := j) (by rw [it_succ, hj]; exact (h.kid _ _ hc).2.2)
    · have : ∀ L : List Int, (∀ c ∈ L, c ∈ K x) → L.Nodup → (L.flatMap (sub K f)).Nodup := by
        intro L
        induction L with
        | nil => intro _ _; exact List.nodup_nil
        | cons c r ih =>
          intro hL hn
          obtain ⟨h1, h2⟩ := List.nodup_cons.1 hn
          rw [List.flatMap_cons, List.nodup_append]
          refine ⟨h.sub_nodup f c (h.kid _ _ (hL c (by simp))).2.1, ih (fun d hd => hL d (by simp [hd])) h2, fun a ha b hb => ?_⟩
          rintro rfl
          obtain ⟨d, hd, hb⟩ := List.mem_flatMap.1 hb
          obtain ⟨i, hi⟩ := h.sub_it f c a ha
          obtain ⟨j, hj⟩ := h.sub_it f d a hb
          rcases Nat.lt_trichotomy i j with hl | hl | hl
          · exact h.sub_apart (hL c (by simp)) (hL d (by simp [hd])) hi hj hl
          · subst hl; rw [hi] at hj; subst hj; exact h1 hd
          · exact h.sub_apart (hL d (by simp [hd])) (hL c (by simp)) hj hi hl
      exact this _ (fun c hc => hc) (h.nod x)
theorem Tr.hb (h : Tr H P K) {L : List Int} (hL : ∀ y, H y → y ∈ L) : ∀ (f : Nat) (y : Int) (k : Nat), H y → Dep P y k → L.length < f + k → Hb K f y
  | 0, y, k, hy, hd, hf => by have := h.dep_le hL hy hd; omega
  | f + 1, y, k, hy, hd, hf => fun c hc => by
    obtain ⟨_, hcH, hcp⟩ := h.kid _ _ hc
    exact h.hb hL f c (k + 1) hcH (hd.kid (h.ne0 hcH) hcp) (by omega)
theorem Tr.hb_all (h : Tr H P K) {L : List Int} (hL : ∀ y, H y → y ∈ L) {y : Int} (hy : H y) : Hb K (L.length + 1) y := by
  obtain ⟨k, hk⟩ := h.dep y
  exact h.hb hL _ y k hy hk (by omega)

/-! ### All above one -/
def up (H : Int → Bool) (P : Int → Int) : Nat → Int → List Int
  | 0, _ => []
  | f + 1, x => if H x = true then x :: up H P f (P x) else []
end
section
variable {H : Int → Bool} {P : Int → Int} {K : Int → List Int}
theorem up_it : ∀ (f : Nat) (a b : Int), b ∈ up H P f a → ∃ j, it P j a = b ∧ H b = true
  | 0, _, _, h => by simp [up] at h
  | f + 1, a, b, h => by
    rw [up] at h
    split at h
    · rename_i ha
      rcases List.mem_cons.1 h with rfl | h
      · exact ⟨0, rfl, ha⟩
      · obtain ⟨j, hj, hb⟩ := up_it f (P a) b h
        exact ⟨j + 1, hj, hb⟩
    · simp at h
theorem Tr.it_up (h : Tr (fun y => H y = true) P K) : ∀ (f : Nat) (a : Int) (k j : Nat), H a = true → Dep P a k → j < k → j < f → it P j a ∈ up H P f a
  | 0, _, _, _, _, _, _, hf => absurd hf (by omega)
  | f + 1, a, k, j, ha, hd, hj, hf => by
    rw [up, if_pos ha]
    cases j with
    | zero => exact List.mem_cons.2 (.inl rfl)
    | succ j =>
      have hp : P a ≠ 0 := hd.2 1 (by omega)
      cases k with
      | zero => omega
      | succ k =>
        exact List.mem_cons.2 (.inr (h.it_up f (P a) k j (h.hpar hp) ⟨hd.1, fun i hi => hd.2 (i + 1) (by omega)⟩ (by omega) (by omega)))
/-- what isn't above a, told by the list, isn't above it -/
theorem Tr.not_up (h : Tr (fun y => H y = true) P K) {L : List Int} (hL : ∀ y, H y = true → y ∈ L) {a b : Int} (ha : H a = true) (hb : H b = true) (hn : b ∉ up H P (L.length + 1) a) (j : Nat) : it P j a ≠ b := by
  intro e
  obtain ⟨k, hk⟩ := h.dep a
  have hkl := h.dep_le hL ha hk
  by_cases hj : j < k
  · exact hn (e ▸ h.it_up _ a k j ha hk hj (by omega))
  · have := h.it_ge hk.1 (by omega : k ≤ j)
    rw [this] at e
    subst e
    exact h.z hb
end
end Go.Proofs.Ytfjnbjpenibpkaa.P5
