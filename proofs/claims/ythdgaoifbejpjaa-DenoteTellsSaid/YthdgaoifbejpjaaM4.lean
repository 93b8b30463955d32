/- An argument that is a slice of some kind, opened; the last step of a row whose arguments are read alone. For any program. No condition. -/
import Derived.Deep.Slices
import Derived.ChangeSame
import Derived.Carry
import Derived.Test.YthdgaoifbejpjaaChecked
import Derived.Laws.LoneSync
import Derived.Deep.Cut
import Derived.Test.YthdgaoifbejpjaaM1
import Derived.Test.YthdgaoifbejpjaaM2
import Derived.Test.YthdgaoifbejpjaaM3
set_option linter.unusedVariables false
set_option linter.unusedSimpArgs false
set_option linter.unusedVariables false
set_option linter.unusedSimpArgs false
namespace Go.Proofs.Ythdgaoifbejpjaa.Kd
open Go.RowKit Go.ChangeShapes Go.WideShapes Go.Deep

theorem spot_none {w : World} {a : Addr} {v : Value} (h : w.cell? a = some v) : a.spot = none := by
  unfold World.cell? at h
  split at h
  · split at h
    · cases h
    · rename_i hs; simpa using hs
  · cases h

theorem Kind.open_ {P : Program} {α : Type} (K : Kind P α) {H : Type} {enc : TypeId × Value → H} {w : World} {v : Value} {d : DataW H} {p : List MemPlace} {base : Nat} (inh : α) (Wf : α → Prop)
    (hce : P.cellsOf K.e = K.size) (hel : ∀ fuel cs x, DataW.trod enc P w 0 (fun _ => true) true fuel K.e cs = some x → cs.length = K.size → ∃ a, cs = K.cs a ∧ Wf a)
    (hv : Value.okWide P w .any base K.t v) (h : DataW.Trod enc P w 0 (fun _ => true) true K.t v d p) :
    ∃ A n c l, v = .slice A n c ∧ l.length = n ∧ n ≤ c ∧ c ≤ maxLen ∧ (∀ a ∈ l, Wf a) ∧ K.Holds w w.heap.size A l := by
  obtain ⟨a, len, cap, rfl⟩ := okWide_slice K.ht hv
  obtain ⟨fuel, hf⟩ := h
  rcases open_slice K.ht hf with ⟨hcs, _⟩ | ⟨ad, len', cap', m, n, D, Pl, hcs, hb, hl, hm, hmm, _, hi⟩
  · have e : Value.slice a len cap = .slice Option.none 0 0 := by simpa [Value.cells] using hcs
    injection e with e1 e2 e3
    subst e1; subst e2; subst e3
    exact ⟨_, _, _, [], rfl, rfl, by omega, by unfold maxLen; omega, fun _ h => absurd h (by simp), Kind.Holds.nil _ _ _⟩
  · have e : Value.slice a len cap = .slice (some ad) len' cap' := by simpa [Value.cells] using hcs
    injection e with e1 e2 e3
    subst e1; subst e2; subst e3
    have hmc : m = cap := by simpa using hmm
    subst hmc
    have each : ∀ i, i < len → ∃ x : α, Wf x ∧ ∀ j, j < K.size → w.cell? (ad.add (i * K.size + j)) = (K.cs x)[j]? := by
      intro i hil
      obtain ⟨cs', h1, h2⟩ := hi i (by omega)
      rw [hce] at h1
      obtain ⟨_, hlen, hcell⟩ := World.cells?_some h1
      obtain ⟨x, rfl, hw⟩ := hel _ _ _ h2 hlen
      refine ⟨x, hw, fun j hj => ?_⟩
      have := hcell j hj
      rwa [add_add] at this
    have hinh : Inhabited α := ⟨inh⟩
    obtain ⟨f, hfx⟩ := choose_lt each
    refine ⟨_, _, _, (List.range len).map f, rfl, by simp, hl, hm, fun x hx => ?_, fun j u hj => ?_⟩
    · obtain ⟨i, hi', rfl⟩ := List.mem_map.1 hx
      exact (hfx i (List.mem_range.1 hi')).1
    · have hjl : j < len * K.size := by
        have := (List.getElem?_eq_some_iff.1 hj).1
        rw [Kind.cells_len] at this
        simpa using this
      have hpos := K.hpos
      have hdm : K.size * (j / K.size) + j % K.size = j := Nat.div_add_mod j K.size
      have hmod : j % K.size < K.size := Nat.mod_lt _ hpos
      have hdiv : j / K.size < len := by rw [Nat.div_lt_iff_lt_mul hpos]; exact hjl
      have hje : j / K.size * K.size + j % K.size = j := by rw [Nat.mul_comm]; exact hdm
      have hk : j / K.size < ((List.range len).map f).length := by simpa using hdiv
      have hcell := (hfx _ hdiv).2 _ hmod
      rw [hje] at hcell
      have hat := K.cells_at _ _ hk _ hmod
      rw [hje, hj] at hat
      have hcu : w.cell? (ad.add j) = some u := by rw [hcell, hat]; simp
      have hsp : ad.spot = Option.none := by
        have z0 := (hfx 0 (Nat.lt_of_le_of_lt (Nat.zero_le _) hdiv)).2 0 hpos
        rw [List.getElem?_eq_getElem (by rw [K.len]; exact hpos)] at z0
        exact spot_none (a := ad) (by simpa [Addr.add] using z0)
      obtain ⟨b, o, sp⟩ := ad
      simp only at hsp
      subst hsp
      rw [add_plain] at hcu
      exact ⟨b, o, rfl, block_lt_of_cell hcu, hcu⟩

/-- the arguments read behind the call as before, no named variable, nothing asked of what comes again -/
theorem post_read {H : Type} {enc : TypeId × Value → H} {P : Program} {f : Func} {s : ChangeSpec} {W W' : World} {args : Array Value} {v : Value} {ds gs : List (DataW H)} {before : List MemPlace}
    (hW : DataW.Whole enc P f.params.toList s.vars false W args.toList ds gs before)
    (hres : DataW.TrodAll enc P W' W.heap.size (fun _ => false) false f.resultTypes.toList (v.resultList f.resultTypes.size) (s.fn H (ds ++ gs)).results [])
    (hargs : DataW.TrodAll enc P W' 0 (fun b => decide (b < W.heap.size)) true f.params.toList args.toList (s.fn H (ds ++ gs)).args before)
    (hvars : DataW.TrodVars enc P W' (fun b => decide (b < W.heap.size)) s.vars (s.fn H (ds ++ gs)).vars [])
    (hb : Below W.heap.size W W') : s.post enc P f false true false false W args v W' :=
  ⟨ds, gs, before, [], before, [], hW, hres, hargs, hvars, World.keptBut_mono (fun _ hp => ⟨hp, .inr (.inl hp)⟩) (hb.frame (· ∈ before)), fun h => by cases h⟩
end Go.Proofs.Ythdgaoifbejpjaa.Kd

/- Slots with identities, as plain lists: where an identity stands, one more, one less, one set anew. No condition. -/
set_option linter.unusedVariables false
set_option linter.unusedSimpArgs false
namespace Go.Proofs.Ythdgaoifbejpjaa.P4

/-- a slot: an identity, and what is there -/
structure Sl (α : Type) where
  id : Int
  x : α

variable {α : Type}
/-- how many identities are below t, from the front -/
def posA : List (Sl α) → Int → Nat
  | [], _ => 0
  | s :: r, t => if s.id < t then posA r t + 1 else 0
/-- identities rise, from 1 to n -/
def Asc (n : Int) (l : List (Sl α)) : Prop := l.Pairwise (fun a b => a.id < b.id) ∧ ∀ s ∈ l, 1 ≤ s.id ∧ s.id ≤ n
/-- does t stand at place k? -/
def atB (l : List (Sl α)) (k : Nat) (t : Int) : Bool := match l[k]? with
  | some s => s.id == t
  | none => false
def hasA (l : List (Sl α)) (t : Int) : Bool := atB l (posA l t) t

theorem posA_le (l : List (Sl α)) (t : Int) : posA l t ≤ l.length := by
  induction l with
  | nil => simp [posA]
  | cons s r ih => simp only [posA, List.length_cons]; split <;> omega
theorem posA_of : ∀ (l : List (Sl α)) (t : Int) (i : Nat), i ≤ l.length → (∀ k (h : k < l.length), k < i → l[k].id < t) → (∀ k (h : k < l.length), i ≤ k → t ≤ l[k].id) → posA l t = i
  | [], t, i, hi, _, _ => by simp at hi; simp [posA, hi]
  | s :: r, t, 0, _, _, h2 => by
    have := h2 0 (by simp) (by omega)
    simp only [List.getElem_cons_zero] at this
    simp only [posA]
    rw [if_neg (by omega)]
  | s :: r, t, i + 1, hi, h1, h2 => by
    have h0 := h1 0 (by simp) (by omega)
    simp only [List.getElem_cons_zero] at h0
    simp only [posA]
    rw [if_pos h0, posA_of r t i (by simpa using hi) (fun k hk hki => h1 (k + 1) (by simpa using hk) (by omega)) (fun k hk hki => h2 (k + 1) (by simpa using hk) (by omega))]
theorem atB_lt {l : List (Sl α)} {k : Nat} {t : Int} (h : atB l k t = true) : k < l.length := by
  unfold atB at h
  split at h
  · rename_i s hs; exact (List.getElem?_eq_some_iff.1 hs).1
  · cases h
theorem atB_id {l : List (Sl α)} {k : Nat} {t : Int} (h : atB l k t = true) (hk : k < l.length) : l[k].id = t := by
  unfold atB at h
  rw [List.getElem?_eq_getElem hk] at h
  simpa using h
theorem atB_at {l : List (Sl α)} {k : Nat} {t : Int} (hk : k < l.length) : atB l k t = (l[k].id == t) := by
  unfold atB
  rw [List.getElem?_eq_getElem hk]
theorem atB_none {l : List (Sl α)} {k : Nat} {t : Int} (hk : l.length ≤ k) : atB l k t = false := by
  unfold atB
  rw [List.getElem?_eq_none hk]
theorem asc_lt {n : Int} {l : List (Sl α)} (h : Asc n l) {i j : Nat} (hi : i < l.length) (hj : j < l.length) (hij : i < j) : l[i].id < l[j].id :=
  List.pairwise_iff_getElem.1 h.1 i j hi hj hij
theorem asc_inj {n : Int} {l : List (Sl α)} (h : Asc n l) {i j : Nat} (hi : i < l.length) (hj : j < l.length) (he : l[i].id = l[j].id) : i = j := by
  rcases Nat.lt_trichotomy i j with hl | hl | hl
  · have := asc_lt h hi hj hl; omega
  · exact hl
  · have := asc_lt h hj hi hl; omega
/-- an identity that is there stands where it is looked for -/
theorem posA_at {n : Int} {l : List (Sl α)} (h : Asc n l) {k : Nat} (hk : k < l.length) : posA l l[k].id = k := by
  refine posA_of l _ k (by omega) (fun i hi hik => asc_lt h hi hk hik) (fun i hi hki => ?_)
  rcases Nat.lt_or_eq_of_le hki with hlt | rfl
  · have := asc_lt h hk hi hlt; omega
  · exact Int.le_refl _
theorem hasA_at {n : Int} {l : List (Sl α)} (h : Asc n l) {k : Nat} (hk : k < l.length) : hasA l l[k].id = true := by
  unfold hasA
  rw [posA_at h hk, atB_at hk]
  simp
theorem hasA_mem {l : List (Sl α)} {t : Int} (h : hasA l t = true) : ∃ s ∈ l, s.id = t := by
  have hk := atB_lt h
  exact ⟨l[posA l t], List.getElem_mem _, atB_id h hk⟩
theorem hasA_iff {n : Int} {l : List (Sl α)} (h : Asc n l) (t : Int) : hasA l t = true ↔ ∃ s ∈ l, s.id = t := by
  refine ⟨hasA_mem, ?_⟩
  rintro ⟨s, hs, rfl⟩
  obtain ⟨k, hk, rfl⟩ := List.mem_iff_getElem.1 hs
  exact hasA_at h hk
theorem hasA_no {n : Int} {l : List (Sl α)} (h : Asc n l) {t : Int} (ht : ∀ s ∈ l, s.id ≠ t) : hasA l t = false := by
  rw [← Bool.not_eq_true, hasA_iff h]
  rintro ⟨s, hs, e⟩
  exact ht s hs e
theorem hasA_big {n : Int} {l : List (Sl α)} (h : Asc n l) {t : Int} (ht : n < t ∨ t < 1) : hasA l t = false :=
  hasA_no h fun s hs e => by have := h.2 s hs; omega

/-! ### One more, one less, one set anew -/
theorem asc_nil : Asc 0 ([] : List (Sl α)) := ⟨List.Pairwise.nil, fun _ h => absurd h (by simp)⟩
theorem asc_put {n : Int} {l : List (Sl α)} (h : Asc n l) (hn : 0 ≤ n) (x : α) : Asc (n + 1) (l ++ [⟨n + 1, x⟩]) := by
  refine ⟨List.pairwise_append.2 ⟨h.1, by simp, fun a ha b hb => ?_⟩, fun s hs => ?_⟩
  · simp only [List.mem_singleton] at hb
    subst hb
    have := h.2 a ha
    show a.id < n + 1
    omega
  · simp only [List.mem_append, List.mem_singleton] at hs
    rcases hs with hs | rfl
    · have := h.2 s hs; omega
    · show 1 ≤ n + 1 ∧ n + 1 ≤ n + 1; omega
theorem asc_drop {n : Int} {l : List (Sl α)} (h : Asc n l) (k : Nat) : Asc n (l.eraseIdx k) :=
  ⟨h.1.sublist (List.eraseIdx_sublist _ _), fun s hs => h.2 s ((List.eraseIdx_sublist _ _).subset hs)⟩
theorem asc_set {n : Int} {l : List (Sl α)} (h : Asc n l) {k : Nat} {t : Int} (hk : atB l k t = true) (x : α) : Asc n (l.set k ⟨t, x⟩) := by
  have hkl := atB_lt hk
  have hid := atB_id hk hkl
  have key : ∀ i (hi : i < (l.set k ⟨t, x⟩).length), (l.set k ⟨t, x⟩)[i].id = (l[i]'(by simpa using hi)).id := by
    intro i hi
    rw [List.getElem_set]
    split
    · rename_i e; subst e; exact hid.symm
    · rfl
  refine ⟨List.pairwise_iff_getElem.2 fun i j hi hj hij => ?_, fun s hs => ?_⟩
  · rw [key i hi, key j hj]
    exact asc_lt h (by simpa using hi) (by simpa using hj) hij
  · obtain ⟨i, hi, rfl⟩ := List.mem_iff_getElem.1 hs
    rw [key i hi]
    exact h.2 _ (List.getElem_mem _)
/-- what was taken away is not there -/
theorem drop_gone {n : Int} {l : List (Sl α)} (h : Asc n l) {t : Int} (ht : hasA l t = true) : ∀ s ∈ l.eraseIdx (posA l t), s.id ≠ t := by
  have hk := atB_lt ht
  have hid := atB_id ht hk
  intro s hs e
  obtain ⟨j, hj, rfl⟩ := List.mem_iff_getElem.1 hs
  rw [List.getElem_eraseIdx] at e
  split at e
  · rename_i hlt
    have := asc_inj h (by omega) hk (e.trans hid.symm)
    omega
  · rename_i hlt
    have hj' : j + 1 < l.length := by rw [List.length_eraseIdx_of_lt hk] at hj; omega
    have := asc_inj h hj' hk (e.trans hid.symm)
    omega
theorem mem_drop {l : List (Sl α)} {k : Nat} {s : Sl α} (h : s ∈ l.eraseIdx k) : s ∈ l := (List.eraseIdx_sublist _ _).subset h

/-! ### The two lists of the law -/
def idsA (l : List (Sl α)) : List Int := l.map (·.id)
def valsA (l : List (Sl α)) : List α := l.map (·.x)
theorem ids_put (l : List (Sl α)) (n : Int) (x : α) : idsA (l ++ [⟨n, x⟩]) = idsA l ++ [n] := by simp [idsA]
theorem vals_put (l : List (Sl α)) (n : Int) (x : α) : valsA (l ++ [⟨n, x⟩]) = valsA l ++ [x] := by simp [valsA]
theorem eraseIdx_eq {β : Type} (l : List β) (k : Nat) : l.eraseIdx k = l.take k ++ l.drop (k + 1) := List.eraseIdx_eq_take_drop_succ l k
theorem ids_drop (l : List (Sl α)) (k : Nat) : idsA (l.eraseIdx k) = (idsA l).take k ++ (idsA l).drop (k + 1) := by
  rw [← eraseIdx_eq]; simp [idsA, eraseIdx_eq]
theorem vals_drop (l : List (Sl α)) (k : Nat) : valsA (l.eraseIdx k) = (valsA l).take k ++ (valsA l).drop (k + 1) := by
  rw [← eraseIdx_eq]; simp [valsA, eraseIdx_eq]
theorem ids_set {l : List (Sl α)} {k : Nat} {t : Int} (h : atB l k t = true) (x : α) : idsA (l.set k ⟨t, x⟩) = idsA l := by
  have hk := atB_lt h
  have hid := atB_id h hk
  simp only [idsA, List.map_set]
  apply List.ext_getElem
  · simp
  · intro i h1 h2
    rw [List.getElem_set]
    split
    · rename_i e; subst e; simp [hid]
    · rfl
theorem vals_set (l : List (Sl α)) (k : Nat) (t : Int) (x : α) : valsA (l.set k ⟨t, x⟩) = (valsA l).set k x := by
  simp [valsA, List.map_set]
/-- where the law has found the identity t among the first k -/
def seenA (l : List (Sl α)) (t : Int) (k : Nat) : Int := if posA l t < k ∧ hasA l t = true then posA l t else -1
theorem seen_zero (l : List (Sl α)) (t : Int) : seenA l t 0 = -1 := by simp [seenA]
theorem seen_yes {n : Int} {l : List (Sl α)} (h : Asc n l) {t : Int} {k : Nat} (hk : k < l.length) (he : l[k].id = t) : seenA l t (k + 1) = k := by
  subst he
  unfold seenA
  rw [posA_at h hk, if_pos ⟨by omega, hasA_at h hk⟩]
theorem seen_no {l : List (Sl α)} {t : Int} {k : Nat} (hk : k < l.length) (he : l[k].id ≠ t) : seenA l t (k + 1) = seenA l t k := by
  unfold seenA
  by_cases hh : hasA l t = true
  · have hp : posA l t ≠ k := by
      intro e
      have := atB_id hh (atB_lt hh)
      subst e
      exact he this
    by_cases hlt : posA l t < k
    · rw [if_pos ⟨by omega, hh⟩, if_pos ⟨hlt, hh⟩]
    · rw [if_neg (by omega), if_neg (by omega)]
  · rw [if_neg (by simp [hh]), if_neg (by simp [hh])]
theorem seen_all_yes {l : List (Sl α)} {t : Int} (h : hasA l t = true) : seenA l t l.length = posA l t := by
  unfold seenA
  rw [if_pos ⟨atB_lt h, h⟩]
theorem seen_all_no {l : List (Sl α)} {t : Int} (h : hasA l t = false) : seenA l t l.length = -1 := by
  unfold seenA
  rw [if_neg (by simp [h])]

/-- an integer modulo 8, as the law takes it -/
def pickA (c n : Int) : Int := (if c < 0 then -(c + 1) else c) % n
theorem pickA_range (c : Int) : 0 ≤ pickA c 8 ∧ pickA c 8 < 8 := by unfold pickA; omega
end Go.Proofs.Ythdgaoifbejpjaa.P4

/- Slices of integers; cmp.Compare and the three atomic calls; an arena's own blocks. No condition. -/
set_option linter.unusedVariables false
set_option linter.unusedSimpArgs false
namespace Go.Proofs.Ythdgaoifbejpjaa.P4
open Go.RowKit Kd

theorem infoI : (Try.prog.info? 3).map (fun i => (i.zero, i.size, i.bytes)) = some (some (.int .i64 0), 1, 8) := by kernel_rfl

theorem info_ex {P : Program} {e : TypeId} {z : Value} {size bytes : Nat} (h : (P.info? e).map (fun i => (i.zero, i.size, i.bytes)) = some (some z, size, bytes)) : ∃ i, P.info? e = some i ∧ i.zero = some z ∧ i.size = size ∧ i.bytes = bytes := by
  obtain ⟨i, h1, h2, h3, h4⟩ := info_parts h
  exact ⟨i, h1, h2, h3, h4⟩

def kI : Kind Try.prog Int where
  t := 49
  e := 3
  size := 1
  bytes := 8
  z := .int .i64 0
  cs := fun a => [.int .i64 a]
  ht := Try.underlying49
  info := info_ex infoI
  hzs := rfl
  hpos := by decide
  hbb := by decide
  len := fun _ => rfl
  one := fun a u hu => by simp at hu; subst hu; rfl

/-! ### cmp.Compare, and the three atomic calls -/
theorem ret_int {a b : Int} (h : a = b) : Ending.returned (.int .i64 a) = .returned (.int .i64 b) := by rw [h]
theorem ret_bool {a b : Bool} (h : a = b) : Ending.returned (.bool a) = .returned (.bool b) := by rw [h]
def cmpA (a b : Int) : Int := if a < b then -1 else if b < a then 1 else 0
theorem cmp_zero (a b : Int) : (a == b) = (cmpA a b == 0) := by
  unfold cmpA
  by_cases h1 : a < b
  · rw [if_pos h1, beq_eq_false_iff_ne.2 (by omega)]; rfl
  · by_cases h2 : b < a
    · rw [if_neg h1, if_pos h2, beq_eq_false_iff_ne.2 (by omega)]; rfl
    · rw [if_neg h1, if_neg h2, beq_iff_eq.2 (by omega)]; rfl
theorem ret_two {p a : Nat} {x y : Bool} (h : p = a) (h2 : x = y) : Ending.returned (.tuple #[.int .i64 a, .bool y]) = .returned (.tuple #[.int .i64 p, .bool x]) := by rw [h, h2]
theorem below_at {α : Type} {N : Int} {l : List (Sl α)} (h : Asc N l) {j : Nat} (hj : j < l.length) {t : Int} (ht : l[j].id < t) {k : Nat} (hk : k < l.length) (hkj : k ≤ j) : l[k].id < t := by
  rcases Nat.lt_or_eq_of_le hkj with hlt | rfl
  · have := asc_lt h hk hj hlt; omega
  · exact ht
theorem above_at {α : Type} {N : Int} {l : List (Sl α)} (h : Asc N l) {j : Nat} (hj : j < l.length) {t : Int} (ht : t ≤ l[j].id) {k : Nat} (hk : k < l.length) (hkj : j ≤ k) : t ≤ l[k].id := by
  rcases Nat.lt_or_eq_of_le hkj with hlt | rfl
  · have := asc_lt h hj hk hlt; omega
  · exact ht
/-- an arena's own blocks: its own, and the one of its slots -/
def Arm (p : Nat) (v : Value) (k : Nat) : Prop := k = p ∨ v.ownBlock = some k
end Go.Proofs.Ythdgaoifbejpjaa.P4

/- The slices that layer 5 has, beside those of integers: of slots of nodes, of nodes, of attributes, of the law's deeds. No condition. -/
set_option linter.unusedVariables false
set_option linter.unusedSimpArgs false
namespace Go.Proofs.Ythdgaoifbejpjaa.P4
open Go.RowKit Kd

theorem infoA : (Try.prog.info? 85).map (fun i => (i.zero, i.size, i.bytes)) = some (some (.agg #[.string ⟨#[]⟩, .string ⟨#[]⟩, .bool false]), 3, 40) := by kernel_rfl
def kA : Kind Try.prog P3.At where
  t := 35
  e := 85
  size := 3
  bytes := 40
  z := .agg #[.string ⟨#[]⟩, .string ⟨#[]⟩, .bool false]
  cs := fun a => [.string a.nm, .string a.vl, .bool a.st]
  ht := Try.underlying35
  info := info_ex infoA
  hzs := rfl
  hpos := by decide
  hbb := by decide
  len := fun _ => rfl
  one := fun a u hu => by simp at hu; rcases hu with rfl | rfl | rfl <;> rfl

/-- a slice, as a value that lies in a cell -/
structure Sv where
  A : Option Addr
  n : Nat
  c : Nat
def Sv.val (s : Sv) : Value := .slice s.A s.n s.c
/-- a node as its cells are -/
structure RN where
  id : Int
  par : Int
  tag : ByteArray
  txt : ByteArray
  key : ByteArray
  va : Sv
  vk : Sv
  note : Int
def RN.cells (a : RN) : List Value := [.int .i64 a.id, .int .i64 a.par, .string a.tag, .string a.txt, .string a.key, a.va.val, a.vk.val, .int .i64 a.note]
/-- a deed of the law, as its cells are -/
structure RE where
  what : Int
  next : Bool
  op : Int
  rid : Int
  par : Int
  bef : Int
  tag : ByteArray
  txt : ByteArray
  key : ByteArray
  va : Sv
  id : Int
  n : Int
def RE.cells (a : RE) : List Value := [.int .i64 a.what, .bool a.next, .int .i64 a.op, .int .i64 a.rid, .int .i64 a.par, .int .i64 a.bef, .string a.tag, .string a.txt, .string a.key, a.va.val, .int .i64 a.id, .int .i64 a.n]
end Go.Proofs.Ythdgaoifbejpjaa.P4

/- Instructions: which may be; what placketref11.May answers; instructions as they lie in memory. No condition but those stated. -/
set_option linter.unusedVariables false
set_option linter.unusedSimpArgs false
namespace Go.Proofs.Ythdgaoifbejpjaa.P11
open Go.RowKit Kd P4

structure In where
  op : Int
  a : ByteArray
  b : ByteArray
def mayI (i : In) : Bool :=
  if i.op = 1 then P1.nameB i.a.data.toList && !P1.voidB i.a.data.toList && P1.textB i.b.data.toList
  else if i.op = 3 then P1.voidB i.a.data.toList && P1.textB i.b.data.toList
  else if i.op = 4 then P1.textB i.a.data.toList && i.b.toList.isEmpty
  else if i.op = 5 ∨ i.op = 6 then P1.nameB i.a.data.toList && P1.textB i.b.data.toList
  else if i.op = 2 ∨ i.op = 7 ∨ i.op = 8 then i.a.toList.isEmpty && i.b.toList.isEmpty
  else false
theorem infoX : (Try.prog.info? 71).map (fun i => (i.zero, i.size, i.bytes)) = some (some (.agg #[.int .i64 0, .string ⟨#[]⟩, .string ⟨#[]⟩]), 3, 40) := by kernel_rfl
def In.cells (i : In) : List Value := [.int .i64 i.op, .string i.a, .string i.b]
def kX : Kind Try.prog In where
  t := 22
  e := 71
  size := 3
  bytes := 40
  z := .agg #[.int .i64 0, .string ⟨#[]⟩, .string ⟨#[]⟩]
  cs := In.cells
  ht := Try.underlying22
  info := info_ex infoX
  hzs := rfl
  hpos := by decide
  hbb := by decide
  len := fun _ => rfl
  one := fun a u hu => by simp [In.cells] at hu; rcases hu with rfl | rfl | rfl <;> rfl
theorem cell_of_ins {w : World} {B : Nat} {A : Option Addr} {l : List In} (h : kX.Holds w B A l) {k : Nat} (hk : k < l.length) :
    ∃ b o, A = some ⟨b, o, none⟩ ∧ b < B ∧ w.cell? ⟨b, o + k * 3, none⟩ = some (.int .i64 l[k].op) ∧ w.cell? ⟨b, o + k * 3 + 1, none⟩ = some (.string l[k].a) ∧ w.cell? ⟨b, o + k * 3 + 2, none⟩ = some (.string l[k].b) := by
  obtain ⟨b, o, rfl, hb, hc⟩ := h.at hk
  exact ⟨b, o, rfl, hb, hc 0 _ rfl, hc 1 _ rfl, hc 2 _ rfl⟩
/-- an instruction in a block of its own -/
def XB (w : World) (s : Nat) (i : In) : Prop := w.heap[s]? = some (.cells #[.int .i64 i.op, .string i.a, .string i.b] 71 (0, 0))
section
variable {w w' : World} {s C : Nat} {i : In}
theorem XB.new (w : World) (i : In) : XB (w.alloc (.cells #[.int .i64 i.op, .string i.a, .string i.b] 71)) w.heap.size i := heap_alloc_new w _
theorem XB.lt (h : XB w s i) : s < w.heap.size := heap_lt h
theorem XB.below (h : XB w s i) (hb : Below C w w') (hC : s < C) : XB w' s i := (hb.block s hC).trans h
theorem XB.c0 (h : XB w s i) : w.cell? ⟨s, 0, none⟩ = some (.int .i64 i.op) := cell_of_row w s 0 _ _ (0, 0) h
theorem XB.c1 (h : XB w s i) : w.cell? ⟨s, 1, none⟩ = some (.string i.a) := cell_of_row w s 1 _ _ (0, 0) h
theorem XB.c2 (h : XB w s i) : w.cell? ⟨s, 2, none⟩ = some (.string i.b) := cell_of_row w s 2 _ _ (0, 0) h
theorem XB.fr (h : XB w s i) (k : Nat) : w.frozen? ⟨s, k, none⟩ = false := by simp [World.frozen?, (show w.heap[s]? = _ from h)]
end
theorem int_eq {a b : Int} (h : a = b) : (a == b) = true := by simp [h]
theorem int_ne {a b : Int} (h : ¬ a = b) : (a == b) = false := by simpa using h
end Go.Proofs.Ythdgaoifbejpjaa.P11

/- An instruction, opened out of an argument. No condition. -/
set_option linter.unusedVariables false
set_option linter.unusedSimpArgs false
namespace Go.Proofs.Ythdgaoifbejpjaa.P11
open Go.RowKit Go.ChangeShapes Go.WideShapes Go.Deep Kd P4

theorem cellsX : Try.prog.cellsOf 71 = 3 := by kernel_rfl
theorem cellsS : Try.prog.cellsOf 9 = 1 := by kernel_rfl
theorem cellsI : Try.prog.cellsOf 3 = 1 := by kernel_rfl
theorem laidOut : laidOutB Try.prog = true := by kernel_rfl
set_option maxRecDepth 100000 in
theorem open_ins_cells {H : Type} {enc : TypeId × Value → H} {w : World} (fuel : Nat) (cs : List Value) (x : DataW H × List MemPlace) (hx : DataW.trod enc Try.prog w 0 (fun _ => true) true fuel 71 cs = some x) (hlen : cs.length = 3) :
    ∃ a : In, cs = a.cells ∧ (a.a.size ≤ maxLen ∧ a.b.size ≤ maxLen) := by
  obtain ⟨xs, k, hk, hxy, _, hxl, hg⟩ := DataW.trod_struct Try.underlying71 hx
  match cs, hlen with
  | [v0, v1, v2], _ =>
    have g0 := hg 0 _ rfl
    have g1 := hg 1 _ rfl
    have g2 := hg 2 _ rfl
    simp [cellsS, cellsI] at g0 g1 g2
    have x0 : xs[0]? = some (xs[0]'(by rw [hxl]; decide)) := List.getElem?_eq_getElem _
    have x1 : xs[1]? = some (xs[1]'(by rw [hxl]; decide)) := List.getElem?_eq_getElem _
    have x2 : xs[2]? = some (xs[2]'(by rw [hxl]; decide)) := List.getElem?_eq_getElem _
    rw [x0] at g0
    rw [x1] at g1
    rw [x2] at g2
    obtain ⟨s0, hs0, _⟩ := DataW.trod_int Try.underlying3 g0
    obtain ⟨s1, hs1, _, hz1⟩ := DataW.trod_string Try.underlying9 g1
    obtain ⟨s2, hs2, _, hz2⟩ := DataW.trod_string Try.underlying9 g2
    injection hs0 with hs0 _
    injection hs1 with hs1 _
    injection hs2 with hs2 _
    subst hs0; subst hs1; subst hs2
    exact ⟨⟨s0, s1, s2⟩, rfl, hz1, hz2⟩
set_option maxRecDepth 100000 in
theorem open_ins {H : Type} {enc : TypeId × Value → H} {w : World} {v : Value} {d : DataW H} {p : List MemPlace} {base : Nat}
    (hv : Value.okWide Try.prog w .any base 71 v) (h : DataW.Trod enc Try.prog w 0 (fun _ => true) true 71 v d p) :
    ∃ a : In, v = .agg #[.int .i64 a.op, .string a.a, .string a.b] ∧ a.a.size ≤ maxLen ∧ a.b.size ≤ maxLen := by
  obtain ⟨cs, rfl, hs⟩ := okWide_struct Try.underlying71 hv
  obtain ⟨fuel, hf⟩ := h
  obtain ⟨a, hc, h1, h2⟩ := open_ins_cells fuel _ _ hf (by simpa [Value.cells, cellsX] using hs)
  refine ⟨a, ?_, h1, h2⟩
  have e : cs.toList = a.cells := by simpa [Value.cells] using hc
  rw [← Array.toArray_toList (xs := cs), e]
  rfl
end Go.Proofs.Ythdgaoifbejpjaa.P11
