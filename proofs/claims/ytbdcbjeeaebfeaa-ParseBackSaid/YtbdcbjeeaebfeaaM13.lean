/- A tree, opened out of an argument. No condition. -/
import Derived.WalkKit
import Derived.Lib.Strings
import Derived.Lib.UnsafeStr
import Derived.Test.YtbdcbjeeaebfeaaM10
import Derived.Test.YtbdcbjeeaebfeaaM12
set_option linter.unusedVariables false
set_option linter.unusedSimpArgs false
namespace Go.Proofs.Ytbdcbjeeaebfeaa.P8
open Go.RowKit Go.ChangeShapes Go.WideShapes Go.Deep Kd P4 P5

/-- a slice, each of whose elements is opened at less fuel -/
theorem open_less {P : Program} {α : Type} (K : Kind P α) {H : Type} {enc : TypeId × Value → H} {w : World} {cs : List Value} {x : DataW H × List MemPlace} {fuel : Nat} (inh : α) (Wf : α → Prop)
    (hce : P.cellsOf K.e = K.size) (hel : ∀ f, f < fuel → ∀ cs x, DataW.trod enc P w 0 (fun _ => true) true f K.e cs = some x → cs.length = K.size → ∃ a, cs = K.cs a ∧ Wf a)
    (hf : DataW.trod enc P w 0 (fun _ => true) true fuel K.t cs = some x) :
    ∃ A n c l, cs = [.slice A n c] ∧ l.length = n ∧ n ≤ c ∧ c ≤ maxLen ∧ (A = none → c = 0) ∧ (∀ a ∈ l, Wf a) ∧ K.Holds w w.heap.size A l := by
  rcases DataW.trod_slice K.ht hf with ⟨rfl, _⟩ | ⟨ad, len, cap, elems, rest, n, hfu, rfl, rfl, _, hl, hm, hle, hi, _, _⟩
  · exact ⟨none, 0, 0, [], rfl, rfl, Nat.le_refl _, by unfold maxLen; omega, fun _ => rfl, fun _ h => absurd h (by simp), Kind.Holds.nil _ _ _⟩
  · have each : ∀ i, i < len → ∃ y : α, Wf y ∧ ∀ j, j < K.size → w.cell? (ad.add (i * K.size + j)) = (K.cs y)[j]? := by
      intro i hil
      have e := hi i hil
      rw [List.getElem?_eq_getElem (by omega), hce] at e
      obtain ⟨cs', h1, h2⟩ := Option.bind_eq_some_iff.1 e
      obtain ⟨_, hlen, hcell⟩ := World.cells?_some h1
      obtain ⟨y, rfl, hw⟩ := hel n (by omega) _ _ h2 hlen
      refine ⟨y, hw, fun j hj => ?_⟩
      have := hcell j hj
      rwa [add_add] at this
    have hinh : Inhabited α := ⟨inh⟩
    obtain ⟨f, hfx⟩ := choose_lt each
    refine ⟨_, _, _, (List.range len).map f, rfl, by simp, hl, hm, fun e => (by cases e), fun y hy => ?_, fun j u hj => ?_⟩
    · obtain ⟨i, hi', rfl⟩ := List.mem_map.1 hy
      exact (hfx i (List.mem_range.1 hi')).1
    · have hjl : j < len * K.size := by
        have := (List.getElem?_eq_some_iff.1 hj).1
        rw [Kind.cells_len] at this
        simpa using this
      have hpos := K.hpos
      have hdm : K.size * (j / K.size) + j % K.size = j := Nat.div_add_mod j K.size
      have hmod : j % K.size < K.size := Nat.mod_lt _ hpos
      have hdiv : j / K.size < len := by rw [Nat.div_lt_iff_lt_mul hpos]; exact hjl
      have hje : j / K.size * K.size + j % K.size = j := by rw [Nat.mul_comm]; exact hdm
      have hk : j / K.size < ((List.range len).map f).length := by simpa using hdiv
      have hcell := (hfx _ hdiv).2 _ hmod
      rw [hje] at hcell
      have hat := K.cells_at _ _ hk _ hmod
      rw [hje, hj] at hat
      have hcu : w.cell? (ad.add j) = some u := by rw [hcell, hat]; simp
      have hsp : ad.spot = Option.none := by
        have z0 := (hfx 0 (Nat.lt_of_le_of_lt (Nat.zero_le _) hdiv)).2 0 hpos
        rw [List.getElem?_eq_getElem (by rw [K.len]; exact hpos)] at z0
        exact spot_none (a := ad) (by simpa [Addr.add] using z0)
      obtain ⟨b, o, sp⟩ := ad
      simp only at hsp
      subst hsp
      rw [add_plain] at hcu
      exact ⟨b, o, rfl, block_lt_of_cell hcu, hcu⟩
theorem cellsT : Try.prog.cellsOf 38 = 5 := by kernel_rfl
theorem cellsLT : Try.prog.cellsOf 23 = 1 := by kernel_rfl
set_option maxRecDepth 100000 in
theorem open_tree_cells {H : Type} {enc : TypeId × Value → H} {w : World} : ∀ (fuel : Nat) (cs : List Value) (x : DataW H × List MemPlace), DataW.trod enc Try.prog w 0 (fun _ => true) true fuel 38 cs = some x → cs.length = 5 →
    ∃ a : TV, cs = kT.cs a ∧ (TOk w w.heap.size a ∧ TFit a) := by
  intro fuel
  induction fuel using Nat.strongRecOn with
  | ind fuel ih =>
    intro cs x hx hlen
    obtain ⟨xs, k, hk, hxy, _, hxl, hg⟩ := DataW.trod_struct Try.underlying38 hx
    match cs, hlen with
    | [v0, v1, v2, v3, v4], _ =>
      have g0 := hg 0 _ rfl
      have g1 := hg 1 _ rfl
      have g2 := hg 2 _ rfl
      have g3 := hg 3 _ rfl
      have g4 := hg 4 _ rfl
      simp [cellsS, cellsLA, cellsLT] at g0 g1 g2 g3 g4
      have x0 : xs[0]? = some (xs[0]'(by rw [hxl]; decide)) := List.getElem?_eq_getElem _
      have x1 : xs[1]? = some (xs[1]'(by rw [hxl]; decide)) := List.getElem?_eq_getElem _
      have x2 : xs[2]? = some (xs[2]'(by rw [hxl]; decide)) := List.getElem?_eq_getElem _
      have x3 : xs[3]? = some (xs[3]'(by rw [hxl]; decide)) := List.getElem?_eq_getElem _
      have x4 : xs[4]? = some (xs[4]'(by rw [hxl]; decide)) := List.getElem?_eq_getElem _
      rw [x0] at g0
      rw [x1] at g1
      rw [x2] at g2
      rw [x3] at g3
      rw [x4] at g4
      obtain ⟨s0, hs0, _, hz0⟩ := DataW.trod_string Try.underlying9 g0
      obtain ⟨s1, hs1, _, hz1⟩ := DataW.trod_string Try.underlying9 g1
      obtain ⟨s2, hs2, _, hz2⟩ := DataW.trod_string Try.underlying9 g2
      obtain ⟨A, n, c, l, hs3, b1, b2, b3, b4, _, b6⟩ := open_fuel kA (⟨⟨#[]⟩, ⟨#[]⟩, false⟩ : P3.At) (fun a => a.nm.size ≤ maxLen ∧ a.vl.size ≤ maxLen) cellsAt (fun _ _ _ h hl => open_at h hl) g3
      obtain ⟨A', n', c', l', hs4, d1, d2, d3, d4, d5, d6⟩ := open_less kT (.mk ⟨#[]⟩ ⟨#[]⟩ ⟨#[]⟩ ⟨none, 0, 0⟩ [] ⟨none, 0, 0⟩ []) (fun a => TOk w w.heap.size a ∧ TFit a) cellsT (fun f hf cs x h hl => ih f (by omega) cs x h hl) g4
      injection hs0 with hs0 _
      injection hs1 with hs1 _
      injection hs2 with hs2 _
      injection hs3 with hs3 _
      injection hs4 with hs4 _
      subst hs0; subst hs1; subst hs2; subst hs3; subst hs4
      exact ⟨.mk s0 s1 s2 ⟨A, n, c⟩ l ⟨A', n', c'⟩ l', rfl, ⟨b1, b2, b4, b6, d1, d2, d4, d6, fun k hk => (d5 k hk).1⟩, ⟨⟨hz0, hz1, hz2, b3, d3⟩, fun k hk => (d5 k hk).2⟩⟩
set_option maxRecDepth 100000 in
theorem open_tree {H : Type} {enc : TypeId × Value → H} {w : World} {v : Value} {d : DataW H} {p : List MemPlace} {base : Nat}
    (hv : Value.okWide Try.prog w .any base 38 v) (h : DataW.Trod enc Try.prog w 0 (fun _ => true) true 38 v d p) :
    ∃ a : TV, v = .agg #[.string a.tag, .string a.txt, .string a.key, .slice a.sa.A a.sa.n a.sa.c, .slice a.sk.A a.sk.n a.sk.c] ∧ TOk w w.heap.size a ∧ TFit a := by
  obtain ⟨cs, rfl, hs⟩ := okWide_struct Try.underlying38 hv
  obtain ⟨fuel, hf⟩ := h
  obtain ⟨a, hc, h1, h2⟩ := open_tree_cells fuel _ _ hf (by simpa [Value.cells, cellsT] using hs)
  refine ⟨a, ?_, h1, h2⟩
  have e : cs.toList = kT.cs a := by simpa [Value.cells] using hc
  rw [← Array.toArray_toList (xs := cs), e]
  rfl
end Go.Proofs.Ytbdcbjeeaebfeaa.P8

/- A slice of trees, opened out of an argument. No condition. -/
namespace Go.Proofs.Ytbdcbjeeaebfeaa.P8
open Go.RowKit Go.ChangeShapes Go.WideShapes Go.Deep Kd P4 P5

theorem open_trees {H : Type} {enc : TypeId × Value → H} {w : World} {v : Value} {d : DataW H} {p : List MemPlace} {base : Nat}
    (hv : Value.okWide Try.prog w .any base 23 v) (h : DataW.Trod enc Try.prog w 0 (fun _ => true) true 23 v d p) :
    ∃ A n c l, v = .slice A n c ∧ l.length = n ∧ n ≤ c ∧ c ≤ maxLen ∧ (∀ a ∈ l, TOk w w.heap.size a ∧ TFit a) ∧ kT.Holds w w.heap.size A l :=
  kT.open_ (.mk ⟨#[]⟩ ⟨#[]⟩ ⟨#[]⟩ ⟨none, 0, 0⟩ [] ⟨none, 0, 0⟩ []) (fun a => TOk w w.heap.size a ∧ TFit a) cellsT (fun fuel cs x h hl => open_tree_cells fuel cs x h hl) hv h
end Go.Proofs.Ytbdcbjeeaebfeaa.P8

/- The plain functions of layer 2: a text escaped, and taken back. No condition. -/
namespace Go.Proofs.Ytbdcbjeeaebfeaa.P2

def isSign (c : UInt8) : Bool := c == 38 || c == 60 || c == 62 || c == 34
def insL (c : UInt8) : List UInt8 :=
  if c = 38 then [38, 97, 109, 112, 59] else if c = 60 then [38, 108, 116, 59] else if c = 62 then [38, 103, 116, 59] else if c = 34 then [38, 113, 117, 111, 116, 59] else []
def signL (c : UInt8) : List UInt8 := if isSign c then insL c else [c]
def insB (c : UInt8) : ByteArray := ⟨(insL c).toArray⟩
def signB (c : UInt8) : ByteArray := ⟨(signL c).toArray⟩
def putL (l : List UInt8) : List UInt8 := l.flatMap signL
def putB (s : ByteArray) : ByteArray := ⟨(putL s.data.toList).toArray⟩

/-- the byte whose escaped form is in front, and that form's length -/
def headL (l : List UInt8) : Option (UInt8 × Nat) :=
  match l with
  | [] => none
  | c :: _ =>
    if isSign c = false then some (c, 1)
    else if Lib.hasPrefix l (signL 38) then some (38, 5)
    else if Lib.hasPrefix l (signL 60) then some (60, 4)
    else if Lib.hasPrefix l (signL 62) then some (62, 4)
    else if Lib.hasPrefix l (signL 34) then some (34, 6)
    else none
def getF : Nat → List UInt8 → Option (List UInt8)
  | 0, l => if l = [] then some [] else none
  | n + 1, l =>
    if l = [] then some [] else
    match headL l with
    | none => none
    | some (c, k) => (getF n (l.drop k)).map (c :: ·)
def getL (l : List UInt8) : Option (List UInt8) := getF l.length l

theorem isSign_cases {c : UInt8} (h : isSign c = true) : c = 38 ∨ c = 60 ∨ c = 62 ∨ c = 34 := by
  simpa [isSign, or_assoc] using h
theorem signL_no {c : UInt8} (h : isSign c = false) : signL c = [c] := by simp [signL, h]
theorem signL_len (c : UInt8) : 1 ≤ (signL c).length ∧ (signL c).length ≤ 6 := by
  cases h : isSign c
  · simp [signL_no h]
  · rcases isSign_cases h with rfl | rfl | rfl | rfl <;> decide
theorem putL_len (l : List UInt8) : (putL l).length ≤ 6 * l.length := by
  induction l with
  | nil => simp [putL]
  | cons c r ih =>
    have := (signL_len c).2
    simp only [putL, List.flatMap_cons, List.length_append, List.length_cons] at ih ⊢
    omega
theorem putL_append (a b : List UInt8) : putL (a ++ b) = putL a ++ putL b := by simp [putL]

theorem hasPrefix_append (p r : List UInt8) : Lib.hasPrefix (p ++ r) p = true := by
  unfold Lib.hasPrefix; rw [List.isPrefixOf_iff_prefix]; exact List.prefix_append _ _
theorem hasPrefix_iff {l p : List UInt8} : Lib.hasPrefix l p = true ↔ ∃ r, l = p ++ r := by
  unfold Lib.hasPrefix
  rw [List.isPrefixOf_iff_prefix]
  constructor
  · rintro ⟨r, h⟩; exact ⟨r, h.symm⟩
  · rintro ⟨r, h⟩; exact ⟨r, h.symm⟩

/-- whose form is in front -/
theorem headL_of_prefix {l : List UInt8} {c : UInt8} (h : Lib.hasPrefix l (signL c) = true) : headL l = some (c, (signL c).length) := by
  obtain ⟨r, rfl⟩ := hasPrefix_iff.1 h
  cases hs : isSign c
  · simp [signL_no hs, headL, hs]
  · rcases isSign_cases hs with rfl | rfl | rfl | rfl <;> simp [signL, insL, headL, isSign, Lib.hasPrefix]
theorem prefix_of_headL {l : List UInt8} {c : UInt8} {k : Nat} (h : headL l = some (c, k)) : Lib.hasPrefix l (signL c) = true ∧ k = (signL c).length := by
  cases l with
  | nil => simp [headL] at h
  | cons a r =>
    cases hs : isSign a
    · simp only [headL, hs, if_true, Option.some.injEq, Prod.mk.injEq] at h
      obtain ⟨rfl, rfl⟩ := h
      exact ⟨by rw [signL_no hs]; exact hasPrefix_append [a] r, by rw [signL_no hs]; rfl⟩
    · simp only [headL, hs, Bool.true_eq_false, if_false] at h
      split at h
      · cases h; exact ⟨by assumption, rfl⟩
      · split at h
        · cases h; exact ⟨by assumption, rfl⟩
        · split at h
          · cases h; exact ⟨by assumption, rfl⟩
          · split at h
            · cases h; exact ⟨by assumption, rfl⟩
            · cases h
theorem headL_none {l : List UInt8} (h : ∀ c : UInt8, Lib.hasPrefix l (signL c) = false) : headL l = none := by
  cases e : headL l with
  | none => rfl
  | some p =>
    obtain ⟨c, k⟩ := p
    have := (prefix_of_headL e).1
    rw [h c] at this; cases this

theorem getF_put (a : List UInt8) : ∀ n, (putL a).length ≤ n → getF n (putL a) = some a := by
  induction a with
  | nil => intro n _; cases n <;> simp [putL, getF]
  | cons c r ih =>
    intro n hn
    have hl := (signL_len c).1
    have e : putL (c :: r) = signL c ++ putL r := rfl
    rw [e] at hn ⊢
    have hne : signL c ++ putL r ≠ [] := by
      intro h
      have := congrArg List.length h
      simp only [List.length_append, List.length_nil] at this
      omega
    rw [List.length_append] at hn
    obtain ⟨m, rfl⟩ : ∃ m, n = m + 1 := ⟨n - 1, by omega⟩
    rw [getF, if_neg hne, headL_of_prefix (hasPrefix_append _ _)]
    show (getF m ((signL c ++ putL r).drop (signL c).length)).map (c :: ·) = _
    rw [List.drop_left, ih m (by omega)]; rfl
theorem getL_put (a : List UInt8) : getL (putL a) = some a := getF_put a _ (Nat.le_refl _)

/-- no sign but 38 stands in an escaped text -/
theorem putL_clean {l : List UInt8} {x : UInt8} (h : x ∈ putL l) : x ≠ 60 ∧ x ≠ 62 ∧ x ≠ 34 := by
  simp only [putL, List.mem_flatMap] at h
  obtain ⟨c, _, hx⟩ := h
  cases hs : isSign c
  · rw [signL_no hs] at hx
    simp only [List.mem_singleton] at hx
    subst hx
    simp [isSign] at hs
    exact ⟨hs.1.1.2, hs.1.2, hs.2⟩
  · rcases isSign_cases hs with rfl | rfl | rfl | rfl <;> (simp [signL, isSign, insL] at hx; rcases hx with rfl | rfl | rfl | rfl | rfl | rfl <;> decide)

theorem take_snoc (s : ByteArray) (k : Nat) (h : k < s.size) : s.data.toList.take (k + 1) = s.data.toList.take k ++ [s[k]] := by
  rw [List.take_succ_eq_append_getElem (by simpa using h)]; rfl
theorem putL_snoc (s : ByteArray) (k : Nat) (h : k < s.size) : putL (s.data.toList.take (k + 1)) = putL (s.data.toList.take k) ++ signL s[k] := by
  rw [take_snoc s k h, putL_append]; simp [putL]
end Go.Proofs.Ytbdcbjeeaebfeaa.P2
