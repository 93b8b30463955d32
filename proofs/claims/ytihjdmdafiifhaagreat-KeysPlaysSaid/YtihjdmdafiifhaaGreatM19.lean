/- An argument that is a slice of some kind, opened; the last step of a row whose arguments are read alone. For any program. No condition. -/
import Derived.Deep.Slices
import Derived.ChangeSame
import Derived.Carry
import Derived.Test.YtihjdmdafiifhaaGreatM1
import Derived.Test.YtihjdmdafiifhaaGreatM2
import Derived.Test.YtihjdmdafiifhaaGreatM6
import Derived.Test.YtihjdmdafiifhaaGreatM18
set_option linter.unusedVariables false
set_option linter.unusedSimpArgs false
set_option linter.unusedVariables false
set_option linter.unusedSimpArgs false
namespace Go.Proofs.YtihjdmdafiifhaaGreat.Kd
open Go.RowKit Go.ChangeShapes Go.WideShapes Go.Deep

theorem spot_none {w : World} {a : Addr} {v : Value} (h : w.cell? a = some v) : a.spot = none := by
  unfold World.cell? at h
  split at h
  · split at h
    · cases h
    · rename_i hs; simpa using hs
  · cases h

theorem Kind.open_ {P : Program} {α : Type} (K : Kind P α) {H : Type} {enc : TypeId × Value → H} {w : World} {v : Value} {d : DataW H} {p : List MemPlace} {base : Nat} (inh : α) (Wf : α → Prop)
    (hce : P.cellsOf K.e = K.size) (hel : ∀ fuel cs x, DataW.trod enc P w 0 (fun _ => true) true fuel K.e cs = some x → cs.length = K.size → ∃ a, cs = K.cs a ∧ Wf a)
    (hv : Value.okWide P w .any base K.t v) (h : DataW.Trod enc P w 0 (fun _ => true) true K.t v d p) :
    ∃ A n c l, v = .slice A n c ∧ l.length = n ∧ n ≤ c ∧ c ≤ maxLen ∧ (∀ a ∈ l, Wf a) ∧ K.Holds w w.heap.size A l := by
  obtain ⟨a, len, cap, rfl⟩ := okWide_slice K.ht hv
  obtain ⟨fuel, hf⟩ := h
  rcases open_slice K.ht hf with ⟨hcs, _⟩ | ⟨ad, len', cap', m, n, D, Pl, hcs, hb, hl, hm, hmm, _, hi⟩
  · have e : Value.slice a len cap = .slice Option.none 0 0 := by simpa [Value.cells] using hcs
    injection e with e1 e2 e3
    subst e1; subst e2; subst e3
    exact ⟨_, _, _, [], rfl, rfl, by omega, by unfold maxLen; omega, fun _ h => absurd h (by simp), Kind.Holds.nil _ _ _⟩
  · have e : Value.slice a len cap = .slice (some ad) len' cap' := by simpa [Value.cells] using hcs
    injection e with e1 e2 e3
    subst e1; subst e2; subst e3
    have hmc : m = cap := by simpa using hmm
    subst hmc
    have each : ∀ i, i < len → ∃ x : α, Wf x ∧ ∀ j, j < K.size → w.cell? (ad.add (i * K.size + j)) = (K.cs x)[j]? := by
      intro i hil
      obtain ⟨cs', h1, h2⟩ := hi i (by omega)
      rw [hce] at h1
      obtain ⟨_, hlen, hcell⟩ := World.cells?_some h1
      obtain ⟨x, rfl, hw⟩ := hel _ _ _ h2 hlen
      refine ⟨x, hw, fun j hj => ?_⟩
      have := hcell j hj
      rwa [add_add] at this
    have hinh : Inhabited α := ⟨inh⟩
    obtain ⟨f, hfx⟩ := choose_lt each
    refine ⟨_, _, _, (List.range len).map f, rfl, by simp, hl, hm, fun x hx => ?_, fun j u hj => ?_⟩
    · obtain ⟨i, hi', rfl⟩ := List.mem_map.1 hx
      exact (hfx i (List.mem_range.1 hi')).1
    · have hjl : j < len * K.size := by
        have := (List.getElem?_eq_some_iff.1 hj).1
        rw [Kind.cells_len] at this
        simpa using this
      have hpos := K.hpos
      have hdm : K.size * (j / K.size) + j % K.size = j := Nat.div_add_mod j K.size
      have hmod : j % K.size < K.size := Nat.mod_lt _ hpos
      have hdiv : j / K.size < len := by rw [Nat.div_lt_iff_lt_mul hpos]; exact hjl
      have hje : j / K.size * K.size + j % K.size = j := by rw [Nat.mul_comm]; exact hdm
      have hk : j / K.size < ((List.range len).map f).length := by simpa using hdiv
      have hcell := (hfx _ hdiv).2 _ hmod
      rw [hje] at hcell
      have hat := K.cells_at _ _ hk _ hmod
      rw [hje, hj] at hat
      have hcu : w.cell? (ad.add j) = some u := by rw [hcell, hat]; simp
      have hsp : ad.spot = Option.none := by
        have z0 := (hfx 0 (Nat.lt_of_le_of_lt (Nat.zero_le _) hdiv)).2 0 hpos
        rw [List.getElem?_eq_getElem (by rw [K.len]; exact hpos)] at z0
        exact spot_none (a := ad) (by simpa [Addr.add] using z0)
      obtain ⟨b, o, sp⟩ := ad
      simp only at hsp
      subst hsp
      rw [add_plain] at hcu
      exact ⟨b, o, rfl, block_lt_of_cell hcu, hcu⟩

/-- the arguments read behind the call as before, no named variable, nothing asked of what comes again -/
theorem post_read {H : Type} {enc : TypeId × Value → H} {P : Program} {f : Func} {s : ChangeSpec} {W W' : World} {args : Array Value} {v : Value} {ds gs : List (DataW H)} {before : List MemPlace}
    (hW : DataW.Whole enc P f.params.toList s.vars false W args.toList ds gs before)
    (hres : DataW.TrodAll enc P W' W.heap.size (fun _ => false) false f.resultTypes.toList (v.resultList f.resultTypes.size) (s.fn H (ds ++ gs)).results [])
    (hargs : DataW.TrodAll enc P W' 0 (fun b => decide (b < W.heap.size)) true f.params.toList args.toList (s.fn H (ds ++ gs)).args before)
    (hvars : DataW.TrodVars enc P W' (fun b => decide (b < W.heap.size)) s.vars (s.fn H (ds ++ gs)).vars [])
    (hb : Below W.heap.size W W') : s.post enc P f false true false false W args v W' :=
  ⟨ds, gs, before, [], before, [], hW, hres, hargs, hvars, World.keptBut_mono (fun _ hp => ⟨hp, .inr (.inl hp)⟩) (hb.frame (· ∈ before)), fun h => by cases h⟩
end Go.Proofs.YtihjdmdafiifhaaGreat.Kd

/- The deeds of layer 5's laws, opened out of an argument. No condition. -/
set_option linter.unusedVariables false
set_option linter.unusedSimpArgs false
namespace Go.Proofs.YtihjdmdafiifhaaGreat.P5
open Go.RowKit Go.ChangeShapes Go.WideShapes Go.Deep Kd P4

theorem open_fuel {P : Program} {α : Type} (K : Kind P α) {H : Type} {enc : TypeId × Value → H} {w : World} {cs : List Value} {x : DataW H × List MemPlace} {fuel : Nat} (inh : α) (Wf : α → Prop)
    (hce : P.cellsOf K.e = K.size) (hel : ∀ fuel cs x, DataW.trod enc P w 0 (fun _ => true) true fuel K.e cs = some x → cs.length = K.size → ∃ a, cs = K.cs a ∧ Wf a)
    (hf : DataW.trod enc P w 0 (fun _ => true) true fuel K.t cs = some x) :
    ∃ A n c l, cs = [.slice A n c] ∧ l.length = n ∧ n ≤ c ∧ c ≤ maxLen ∧ (A = none → c = 0) ∧ (∀ a ∈ l, Wf a) ∧ K.Holds w w.heap.size A l := by
  rcases open_slice K.ht hf with ⟨hcs, _⟩ | ⟨ad, len, cap, m, n, D, Pl, hcs, hb, hl, hm, hmm, _, hi⟩
  · exact ⟨none, 0, 0, [], hcs, rfl, Nat.le_refl _, by unfold maxLen; omega, fun _ => rfl, fun _ h => absurd h (by simp), Kind.Holds.nil _ _ _⟩
  · have hmc : m = cap := by simpa using hmm
    subst hmc
    have each : ∀ i, i < len → ∃ x : α, Wf x ∧ ∀ j, j < K.size → w.cell? (ad.add (i * K.size + j)) = (K.cs x)[j]? := by
      intro i hil
      obtain ⟨cs', h1, h2⟩ := hi i (by omega)
      rw [hce] at h1
      obtain ⟨_, hlen, hcell⟩ := World.cells?_some h1
      obtain ⟨x, rfl, hw⟩ := hel _ _ _ h2 hlen
      refine ⟨x, hw, fun j hj => ?_⟩
      have := hcell j hj
      rwa [add_add] at this
    have hinh : Inhabited α := ⟨inh⟩
    obtain ⟨f, hfx⟩ := choose_lt each
    refine ⟨_, _, _, (List.range len).map f, hcs, by simp, hl, hm, fun e => (by cases e), fun x hx => ?_, fun j u hj => ?_⟩
    · obtain ⟨i, hi', rfl⟩ := List.mem_map.1 hx
      exact (hfx i (List.mem_range.1 hi')).1
    · have hjl : j < len * K.size := by
        have := (List.getElem?_eq_some_iff.1 hj).1
        rw [Kind.cells_len] at this
        simpa using this
      have hpos := K.hpos
      have hdm : K.size * (j / K.size) + j % K.size = j := Nat.div_add_mod j K.size
      have hmod : j % K.size < K.size := Nat.mod_lt _ hpos
      have hdiv : j / K.size < len := by rw [Nat.div_lt_iff_lt_mul hpos]; exact hjl
      have hje : j / K.size * K.size + j % K.size = j := by rw [Nat.mul_comm]; exact hdm
      have hk : j / K.size < ((List.range len).map f).length := by simpa using hdiv
      have hcell := (hfx _ hdiv).2 _ hmod
      rw [hje] at hcell
      have hat := K.cells_at _ _ hk _ hmod
      rw [hje, hj] at hat
      have hcu : w.cell? (ad.add j) = some u := by rw [hcell, hat]; simp
      have hsp : ad.spot = Option.none := by
        have z0 := (hfx 0 (Nat.lt_of_le_of_lt (Nat.zero_le _) hdiv)).2 0 hpos
        rw [List.getElem?_eq_getElem (by rw [K.len]; exact hpos)] at z0
        exact spot_none (a := ad) (by simpa [Addr.add] using z0)
      obtain ⟨b, o, sp⟩ := ad
      simp only at hsp
      subst hsp
      rw [add_plain] at hcu
      exact ⟨b, o, rfl, block_lt_of_cell hcu, hcu⟩

theorem cellsI : Tryz.prog.cellsOf 3 = 1 := by kernel_rfl
theorem cellsI64 : Tryz.prog.cellsOf 2 = 1 := by kernel_rfl
theorem cellsS : Tryz.prog.cellsOf 9 = 1 := by kernel_rfl
theorem cellsB : Tryz.prog.cellsOf 4 = 1 := by kernel_rfl
theorem cellsLA : Tryz.prog.cellsOf 32 = 1 := by kernel_rfl
theorem cellsAt : Tryz.prog.cellsOf 102 = 3 := by kernel_rfl
theorem cellsRec : Tryz.prog.cellsOf 54 = 8 := by kernel_rfl
theorem cellsDe : Tryz.prog.cellsOf 59 = 12 := by kernel_rfl
theorem laidOut : laidOutB Tryz.prog = true := by kernel_rfl

set_option maxRecDepth 100000 in
theorem open_at {H : Type} {enc : TypeId × Value → H} {w : World} {fuel : Nat} {cs : List Value} {x : DataW H × List MemPlace} (hx : DataW.trod enc Tryz.prog w 0 (fun _ => true) true fuel 102 cs = some x) (hlen : cs.length = 3) :
    ∃ a : P3.At, cs = kA.cs a ∧ (a.nm.size ≤ maxLen ∧ a.vl.size ≤ maxLen) := by
  obtain ⟨xs, k, hk, hxy, _, hxl, hg⟩ := DataW.trod_struct Tryz.underlying102 hx
  match cs, hlen with
  | [v0, v1, v2], _ =>
    have g0 := hg 0 _ rfl
    have g1 := hg 1 _ rfl
    have g2 := hg 2 _ rfl
    simp [cellsS, cellsB] at g0 g1 g2
    have x0 : xs[0]? = some (xs[0]'(by rw [hxl]; decide)) := List.getElem?_eq_getElem _
    have x1 : xs[1]? = some (xs[1]'(by rw [hxl]; decide)) := List.getElem?_eq_getElem _
    have x2 : xs[2]? = some (xs[2]'(by rw [hxl]; decide)) := List.getElem?_eq_getElem _
    rw [x0] at g0
    rw [x1] at g1
    rw [x2] at g2
    obtain ⟨s0, hs0, _, hz0⟩ := DataW.trod_string Tryz.underlying9 g0
    obtain ⟨s1, hs1, _, hz1⟩ := DataW.trod_string Tryz.underlying9 g1
    obtain ⟨s2, hs2, _⟩ := DataW.trod_bool Tryz.underlying4 g2
    injection hs0 with hs0 _
    injection hs1 with hs1 _
    injection hs2 with hs2 _
    subst hs0; subst hs1; subst hs2
    exact ⟨⟨s0, s1, s2⟩, rfl, hz0, hz1⟩
set_option maxRecDepth 100000 in
theorem open_deed {H : Type} {enc : TypeId × Value → H} {w : World} {fuel : Nat} {cs : List Value} {x : DataW H × List MemPlace} (hx : DataW.trod enc Tryz.prog w 0 (fun _ => true) true fuel 59 cs = some x) (hlen : cs.length = 12) :
    ∃ a : RE, cs = kE.cs a ∧ DeedOk w a := by
  obtain ⟨xs, k, hk, hxy, _, hxl, hg⟩ := DataW.trod_struct Tryz.underlying59 hx
  match cs, hlen with
  | [v0, v1, v2, v3, v4, v5, v6, v7, v8, v9, v10, v11], _ =>
    have g0 := hg 0 _ rfl
    have g1 := hg 1 _ rfl
    have g2 := hg 2 _ rfl
    have g3 := hg 3 _ rfl
    have g4 := hg 4 _ rfl
    simp [cellsI, cellsB, cellsRec, cellsI64] at g0 g1 g2 g3 g4
    have x0 : xs[0]? = some (xs[0]'(by rw [hxl]; decide)) := List.getElem?_eq_getElem _
    have x1 : xs[1]? = some (xs[1]'(by rw [hxl]; decide)) := List.getElem?_eq_getElem _
    have x2 : xs[2]? = some (xs[2]'(by rw [hxl]; decide)) := List.getElem?_eq_getElem _
    have x3 : xs[3]? = some (xs[3]'(by rw [hxl]; decide)) := List.getElem?_eq_getElem _
    have x4 : xs[4]? = some (xs[4]'(by rw [hxl]; decide)) := List.getElem?_eq_getElem _
    rw [x0] at g0
    rw [x1] at g1
    rw [x2] at g2
    rw [x3] at g3
    rw [x4] at g4
    obtain ⟨s0, hs0, _, hz0⟩ := DataW.trod_int Tryz.underlying3 g0
    obtain ⟨s1, hs1, _⟩ := DataW.trod_bool Tryz.underlying4 g1
    obtain ⟨s10, hs10, _⟩ := DataW.trod_int Tryz.underlying3 g3
    obtain ⟨s11, hs11, _⟩ := DataW.trod_int Tryz.underlying2 g4
    obtain ⟨ys, k', hk', hxy', _, hyl, hh⟩ := DataW.trod_struct Tryz.underlying54 g2
    have y0 := hh 0 _ rfl
    have y1 := hh 1 _ rfl
    have y2 := hh 2 _ rfl
    have y3 := hh 3 _ rfl
    have y4 := hh 4 _ rfl
    have y5 := hh 5 _ rfl
    have y6 := hh 6 _ rfl
    have y7 := hh 7 _ rfl
    simp [cellsI, cellsS, cellsLA] at y0 y1 y2 y3 y4 y5 y6 y7
    have z0 : ys[0]? = some (ys[0]'(by rw [hyl]; decide)) := List.getElem?_eq_getElem _
    have z1 : ys[1]? = some (ys[1]'(by rw [hyl]; decide)) := List.getElem?_eq_getElem _
    have z2 : ys[2]? = some (ys[2]'(by rw [hyl]; decide)) := List.getElem?_eq_getElem _
    have z3 : ys[3]? = some (ys[3]'(by rw [hyl]; decide)) := List.getElem?_eq_getElem _
    have z4 : ys[4]? = some (ys[4]'(by rw [hyl]; decide)) := List.getElem?_eq_getElem _
    have z5 : ys[5]? = some (ys[5]'(by rw [hyl]; decide)) := List.getElem?_eq_getElem _
    have z6 : ys[6]? = some (ys[6]'(by rw [hyl]; decide)) := List.getElem?_eq_getElem _
    have z7 : ys[7]? = some (ys[7]'(by rw [hyl]; decide)) := List.getElem?_eq_getElem _
    rw [z0] at y0
    rw [z1] at y1
    rw [z2] at y2
    rw [z3] at y3
    rw [z4] at y4
    rw [z5] at y5
    rw [z6] at y6
    rw [z7] at y7
    obtain ⟨t0, ht0, _⟩ := DataW.trod_int Tryz.underlying3 y0
    obtain ⟨t1, ht1, _⟩ := DataW.trod_int Tryz.underlying3 y1
    obtain ⟨t2, ht2, _⟩ := DataW.trod_int Tryz.underlying3 y2
    obtain ⟨t3, ht3, _⟩ := DataW.trod_int Tryz.underlying3 y3
    obtain ⟨t4, ht4, _, hl4⟩ := DataW.trod_string Tryz.underlying9 y4
    obtain ⟨t5, ht5, _, hl5⟩ := DataW.trod_string Tryz.underlying9 y5
    obtain ⟨t6, ht6, _, hl6⟩ := DataW.trod_string Tryz.underlying9 y6
    obtain ⟨A, n, c, l, ht7, b1, b2, b3, b4, b5, b6⟩ := open_fuel kA (⟨⟨#[]⟩, ⟨#[]⟩, false⟩ : P3.At) (fun a => a.nm.size ≤ maxLen ∧ a.vl.size ≤ maxLen) cellsAt (fun _ _ _ h hl => open_at h hl) y7
    injection hs0 with hs0 _
    injection hs1 with hs1 _
    injection hs10 with hs10 _
    injection hs11 with hs11 _
    injection ht0 with ht0 _
    injection ht1 with ht1 _
    injection ht2 with ht2 _
    injection ht3 with ht3 _
    injection ht4 with ht4 _
    injection ht5 with ht5 _
    injection ht6 with ht6 _
    injection ht7 with ht7 _
    subst hs0; subst hs1; subst hs10; subst hs11; subst ht0; subst ht1; subst ht2; subst ht3; subst ht4; subst ht5; subst ht6; subst ht7
    simp [Lit.wf] at hz0
    exact ⟨⟨s0, s1, t0, t1, t2, t3, t4, t5, t6, ⟨A, n, c⟩, s10, s11⟩, rfl, ⟨hz0.1, hz0.2, hl4, hl5, hl6, l, b1, b2, b3, b4, b6, b5⟩⟩
set_option maxRecDepth 100000 in
theorem open_deeds {H : Type} {enc : TypeId × Value → H} {w : World} {v : Value} {d : DataW H} {p : List MemPlace} {base : Nat}
    (hv : Value.okWide Tryz.prog w .any base 22 v) (h : DataW.Trod enc Tryz.prog w 0 (fun _ => true) true 22 v d p) :
    ∃ A n c l, v = .slice A n c ∧ l.length = n ∧ n ≤ c ∧ c ≤ maxLen ∧ (∀ a ∈ l, DeedOk w a) ∧ kE.Holds w w.heap.size A l := by
  obtain ⟨a, len, cap, rfl⟩ := okWide_slice Tryz.underlying22 hv
  obtain ⟨fuel, hf⟩ := h
  obtain ⟨A, n, c, l, hcs, h1, h2, h3, _, h5, h6⟩ := open_fuel kE (⟨0, false, 0, 0, 0, 0, ⟨#[]⟩, ⟨#[]⟩, ⟨#[]⟩, ⟨none, 0, 0⟩, 0, 0⟩ : RE) (DeedOk w) cellsDe (fun _ _ _ h hl => open_deed h hl) hf
  have e : Value.slice a len cap = .slice A n c := by simpa [Value.cells] using hcs
  exact ⟨A, n, c, l, e, h1, h2, h3, h5, h6⟩
end Go.Proofs.YtihjdmdafiifhaaGreat.P5

/- A slice of integers that comes in. No condition. -/
set_option linter.unusedVariables false
set_option linter.unusedSimpArgs false
namespace Go.Proofs.YtihjdmdafiifhaaGreat.P4
open Go.RowKit Go.ChangeShapes Go.WideShapes Go.Deep Kd
theorem cellsI_ : Tryz.prog.cellsOf 3 = 1 := by kernel_rfl
set_option maxRecDepth 100000 in
theorem open_ints {H : Type} {enc : TypeId × Value → H} {w : World} {v : Value} {d : DataW H} {p : List MemPlace} {base : Nat}
    (hv : Value.okWide Tryz.prog w .any base 23 v) (h : DataW.Trod enc Tryz.prog w 0 (fun _ => true) true 23 v d p) :
    ∃ A n c l, v = .slice A n c ∧ l.length = n ∧ n ≤ c ∧ c ≤ maxLen ∧ kI.Holds w w.heap.size A l := by
  obtain ⟨A, n, c, l, h1, h2, h3, h4, _, h5⟩ := kI.open_ (base := base) (0 : Int) (fun _ => True) cellsI_ (fun fuel cs x hx _ => by
    obtain ⟨z, rfl, _⟩ := DataW.trod_int Tryz.underlying3 hx
    exact ⟨z, rfl, trivial⟩) hv h
  exact ⟨A, n, c, l, h1, h2, h3, h4, h5⟩
end Go.Proofs.YtihjdmdafiifhaaGreat.P4

/- Children by their keys, plain: those of some ids that have a key; the first one of a tag and a key; one that is dropped. No condition. -/
set_option linter.unusedVariables false
set_option linter.unusedSimpArgs false
namespace Go.Proofs.YtihjdmdafiifhaaGreat.P15
open P5

/-- a child: its identity, its tag, its key -/
structure Ch where
  id : Int
  tag : ByteArray
  key : ByteArray
def keyN (x : Nd) : Bool := !x.tag.toList.isEmpty && !x.key.toList.isEmpty
/-- those of ids that are elements, and have a key -/
def keyedL (l : List Nd) : List Int → List Ch
  | [] => []
  | i :: r => match find l i with
    | some x => if keyN x then ⟨i, x.tag, x.key⟩ :: keyedL l r else keyedL l r
    | none => keyedL l r
def hitC (tag key : ByteArray) (c : Ch) : Bool := (c.tag.toList == tag.toList) && (c.key.toList == key.toList)
/-- the first one of a tag, and a key: its identity; 0: none -/
def findM (l : List Ch) (tag key : ByteArray) : Int × Bool := match l.find? (hitC tag key) with
  | some c => (c.id, true)
  | none => (0, false)
def hasM (l : List Ch) (i : Int) : Bool := l.any fun c => decide (c.id = i)
def dropM (l : List Ch) (i : Int) : List Ch := l.filter fun c => !decide (c.id = i)
/-- a map: whether it was asked; its document; what was handed in; those that are left -/
structure MS where
  asked : Bool
  doc : Option Nat
  ids : List Int
  left : List Ch
/-- it is asked -/
def asks (S : MS) (l : List Nd) : MS := if S.asked then S else ⟨true, S.doc, S.ids, match S.doc with | none => [] | some _ => keyedL l S.ids⟩
theorem asks_asked (S : MS) (l : List Nd) : (asks S l).asked = true := by
  unfold asks
  cases h : S.asked <;> simp [h]
theorem asks_ids (S : MS) (l : List Nd) : (asks S l).ids = S.ids := by
  unfold asks
  cases h : S.asked <;> simp
theorem asks_doc (S : MS) (l : List Nd) : (asks S l).doc = S.doc := by
  unfold asks
  cases h : S.asked <;> simp
theorem asks_left {S : MS} {l : List Nd} (h : S.asked = true) : (asks S l) = S := by unfold asks; rw [if_pos h]
theorem keyed_snoc (l : List Nd) : ∀ (a : List Int) (i : Int), keyedL l (a ++ [i]) = keyedL l a ++ keyedL l [i]
  | [], i => rfl
  | b :: a, i => by
    rw [List.cons_append, keyedL, keyedL]
    cases find l b with
    | none => exact keyed_snoc l a i
    | some x =>
      simp only
      split
      · rw [keyed_snoc l a i]; rfl
      · exact keyed_snoc l a i
theorem keyed_mem {l : List Nd} : ∀ {ids : List Int} {c : Ch}, c ∈ keyedL l ids → c.id ∈ ids ∧ ∃ x, find l c.id = some x ∧ keyN x = true ∧ c.tag = x.tag ∧ c.key = x.key
  | [], c, h => by cases h
  | i :: r, c, h => by
    rw [keyedL] at h
    cases hf : find l i with
    | none =>
      rw [hf] at h
      obtain ⟨h1, h2⟩ := keyed_mem (ids := r) h
      exact ⟨List.mem_cons_of_mem _ h1, h2⟩
    | some x =>
      rw [hf] at h
      simp only at h
      split at h
      · rename_i hk
        rcases List.mem_cons.1 h with rfl | h
        · exact ⟨by simp, x, hf, hk, rfl, rfl⟩
        · obtain ⟨h1, h2⟩ := keyed_mem (ids := r) h
          exact ⟨List.mem_cons_of_mem _ h1, h2⟩
      · obtain ⟨h1, h2⟩ := keyed_mem (ids := r) h
        exact ⟨List.mem_cons_of_mem _ h1, h2⟩
theorem keyed_has {l : List Nd} : ∀ {ids : List Int} {i : Int} {x : Nd}, i ∈ ids → find l i = some x → keyN x = true → (⟨i, x.tag, x.key⟩ : Ch) ∈ keyedL l ids
  | [], i, x, h, _, _ => by cases h
  | j :: r, i, x, h, hf, hk => by
    rw [keyedL]
    rcases List.mem_cons.1 h with rfl | h
    · rw [hf]
      simp only
      rw [if_pos hk]
      simp
    · have := keyed_has (l := l) h hf hk
      cases find l j with
      | none => exact this
      | some z =>
        simp only
        split
        · exact List.mem_cons_of_mem _ this
        · exact this
def cids (l : List Ch) : List Int := l.map (·.id)
theorem keyed_sub (l : List Nd) : ∀ ids : List Int, (cids (keyedL l ids)).Sublist ids
  | [] => List.Sublist.slnil
  | i :: r => by
    rw [keyedL]
    cases find l i with
    | none => exact (keyed_sub l r).cons _
    | some x =>
      simp only
      split
      · exact (keyed_sub l r).cons_cons _
      · exact (keyed_sub l r).cons _
theorem keyed_nodup {l : List Nd} {ids : List Int} (h : ids.Nodup) : (cids (keyedL l ids)).Nodup := (keyed_sub l ids).nodup h
theorem keyed_len (l : List Nd) (ids : List Int) : (keyedL l ids).length ≤ ids.length := by
  have := (keyed_sub l ids).length_le
  simpa [cids] using this
theorem drop_ids (l : List Ch) (i : Int) : cids (dropM l i) = (cids l).filter fun j => !decide (j = i) := by
  unfold cids dropM
  rw [List.filter_map]
  rfl
theorem has_ids {l : List Ch} {i : Int} : hasM l i = true ↔ i ∈ cids l := by
  unfold hasM cids
  rw [List.any_eq_true, List.mem_map]
  constructor
  · rintro ⟨c, hc, h⟩; exact ⟨c, hc, by simpa using h⟩
  · rintro ⟨c, hc, h⟩; exact ⟨c, hc, by simpa using h⟩
theorem drop_no {l : List Ch} {i : Int} (h : hasM l i = false) : dropM l i = l := by
  unfold dropM
  rw [List.filter_eq_self]
  intro c hc
  unfold hasM at h
  rw [List.any_eq_false] at h
  simpa using h c hc
end Go.Proofs.YtihjdmdafiifhaaGreat.P15

/- The document's example of layer 5, at the head of both laws: it answers true. -/
set_option linter.unusedVariables false
set_option linter.unusedSimpArgs false
namespace Go.Proofs.YtihjdmdafiifhaaGreat.P5
open Go.RowKit Kd P4

theorem newDoc_at (r : Int) (R : Nat) (w : World) (hr : r = R) (h1 : 1 ≤ r) (h2 : r ≤ 200) : Calls Tryz.prog 16 #[.int .i64 r] w (NewDoc w R) := by
  subst hr; exact newDoc_yes R w (by omega) (by omega)
def rec1 : Rc := ⟨1, 2, 0, 0, ⟨#[112]⟩, ⟨#[]⟩, ⟨#[]⟩, []⟩
def rec2 : Rc := ⟨2, 2, 1, 0, ⟨#[]⟩, ⟨#[]⟩, ⟨#[]⟩, []⟩
def nodeR : Nd := newN 1 ⟨#[114, 111, 111, 116]⟩ ⟨#[]⟩ ⟨#[]⟩
def nodeP : Nd := newN 2 ⟨#[112]⟩ ⟨#[]⟩ ⟨#[]⟩
theorem list1 : (⟨#[112]⟩ : ByteArray).toList = [112] := by rw [ByteArray.toList_eq]
theorem list0 : (⟨#[]⟩ : ByteArray).toList = [] := by rw [ByteArray.toList_eq]
theorem listR : (⟨#[114, 111, 111, 116]⟩ : ByteArray).toList = [114, 111, 111, 116] := by rw [ByteArray.toList_eq]
theorem ex1 : applyD (newD 9) rec1 = (0, ⟨[nodeR, nodeP], 2, 9, 0⟩) := by
  have hm : mayMake ⟨#[112]⟩ ⟨#[]⟩ ⟨#[]⟩ = true := by
    unfold mayMake
    rw [list1, list0]
    decide
  unfold applyD
  rw [if_pos (show rec1.op = 1 from rfl)]
  unfold makeD
  rw [if_neg (by rintro (e | e); (exact e rfl); (rw [show mayMake rec1.tag rec1.txt rec1.key = true from hm] at e; cases e)), if_neg (by decide)]
  rfl
theorem ex2 : applyD ⟨[nodeR, nodeP], 2, 9, 0⟩ rec2 = (0, ⟨[withKids (insA 2 0) nodeR, withPar 1 nodeP], 2, 9, 0⟩) := by
  have hk : noKids nodeR.tag = false := by
    unfold noKids
    rw [show nodeR.tag.toList = [114, 111, 111, 116] from listR]
    decide
  have he : putErr [nodeR, nodeP] 2 1 0 = 0 := by
    unfold putErr
    rw [if_neg (by decide), if_neg (by decide), if_neg (by rw [show tagOf [nodeR, nodeP] 1 = nodeR.tag from rfl, hk]; decide), if_neg (by decide), if_neg (by decide)]
  unfold applyD
  rw [if_neg (by decide), if_pos (show rec2.op = 2 from rfl)]
  unfold putD
  rw [if_pos (show putErr [nodeR, nodeP] rec2.id rec2.par rec2.bef = 0 from he)]
  rfl
theorem argNil (w : World) : ArgA w none 0 0 [] := ⟨rfl, Nat.le_refl _, fun _ => rfl, by omega, fun a h => absurd h (by simp), Kind.Holds.nil _ _ _⟩
theorem size_nil : (⟨#[]⟩ : ByteArray).size ≤ maxLen := by unfold maxLen; decide
theorem size_one : (⟨#[112]⟩ : ByteArray).size ≤ maxLen := by unfold maxLen; decide
theorem errV0 : errV 0 = .nilIface := rfl
end Go.Proofs.YtihjdmdafiifhaaGreat.P5

/- What the laws of layer 5 are told of a node; what a change leaves of the last identity. -/
set_option linter.unusedVariables false
set_option linter.unusedSimpArgs false
namespace Go.Proofs.YtihjdmdafiifhaaGreat.P5
open Go.RowKit Kd P4
variable {B p : Nat} {x : Dx}

/-! ### What a change leaves of the last identity -/
theorem apply_n (d : D) (r : Rc) : d.n ≤ (applyD d r).2.n ∧ (applyD d r).2.n ≤ d.n + 1 := by
  unfold applyD
  split
  · unfold makeD
    split
    · exact ⟨Int.le_refl _, by show d.n ≤ d.n + 1; omega⟩
    · split
      · exact ⟨Int.le_refl _, by show d.n ≤ d.n + 1; omega⟩
      · show d.n ≤ d.n + 1 ∧ d.n + 1 ≤ d.n + 1
        omega
  · split
    · unfold putD; split <;> exact ⟨Int.le_refl _, by show d.n ≤ d.n + 1; omega⟩
    · split
      · unfold goneD
        split
        · exact ⟨Int.le_refl _, by show d.n ≤ d.n + 1; omega⟩
        · split <;> exact ⟨Int.le_refl _, by show d.n ≤ d.n + 1; omega⟩
      · split
        · unfold attrsD
          split
          · exact ⟨Int.le_refl _, by show d.n ≤ d.n + 1; omega⟩
          · split
            · exact ⟨Int.le_refl _, by show d.n ≤ d.n + 1; omega⟩
            · split <;> exact ⟨Int.le_refl _, by show d.n ≤ d.n + 1; omega⟩
        · split
          · unfold dataD
            split
            · exact ⟨Int.le_refl _, by show d.n ≤ d.n + 1; omega⟩
            · split
              · exact ⟨Int.le_refl _, by show d.n ≤ d.n + 1; omega⟩
              · split <;> exact ⟨Int.le_refl _, by show d.n ≤ d.n + 1; omega⟩
          · exact ⟨Int.le_refl _, by show d.n ≤ d.n + 1; omega⟩
theorem focus_n (d : D) (i : Int) : (focusD d i).2.n = d.n := by
  unfold focusD; split <;> rfl

/-! ### A node that has been told, in a block of its own -/
def NdB (w : World) (g : Nat) (nd : Nd) (A : Option Addr) (n c : Nat) (A2 : Option Addr) (n2 k2 : Nat) : Prop :=
  w.heap[g]? = some (.cells #[.int .i64 nd.id, .int .i64 nd.par, .string nd.tag, .string nd.txt, .string nd.key, .slice A n c, .slice A2 n2 k2, .int .i64 nd.note] 34 (0, 0))
section
variable {w w' : World} {g : Nat} {nd : Nd} {A A2 : Option Addr} {n c n2 k2 : Nat}
theorem NdB.lt (h : NdB w g nd A n c A2 n2 k2) : g < w.heap.size := heap_lt h
theorem NdB.below {C : Nat} (h : NdB w g nd A n c A2 n2 k2) (hb : Below C w w') (hC : g < C) : NdB w' g nd A n c A2 n2 k2 := (hb.block g hC).trans h
theorem NdB.new (w : World) (nd : Nd) (A : Option Addr) (n c : Nat) (A2 : Option Addr) (n2 k2 : Nat) : NdB (w.alloc (.cells #[.int .i64 nd.id, .int .i64 nd.par, .string nd.tag, .string nd.txt, .string nd.key, .slice A n c, .slice A2 n2 k2, .int .i64 nd.note] 34)) w.heap.size nd A n c A2 n2 k2 := heap_alloc_new w _
theorem NdB.c0 (h : NdB w g nd A n c A2 n2 k2) : w.cell? ⟨g, 0, none⟩ = some (.int .i64 nd.id) := cell_of_row w g 0 _ _ (0, 0) h
theorem NdB.c1 (h : NdB w g nd A n c A2 n2 k2) : w.cell? ⟨g, 1, none⟩ = some (.int .i64 nd.par) := cell_of_row w g 1 _ _ (0, 0) h
theorem NdB.c2 (h : NdB w g nd A n c A2 n2 k2) : w.cell? ⟨g, 2, none⟩ = some (.string nd.tag) := cell_of_row w g 2 _ _ (0, 0) h
theorem NdB.c3 (h : NdB w g nd A n c A2 n2 k2) : w.cell? ⟨g, 3, none⟩ = some (.string nd.txt) := cell_of_row w g 3 _ _ (0, 0) h
theorem NdB.c4 (h : NdB w g nd A n c A2 n2 k2) : w.cell? ⟨g, 4, none⟩ = some (.string nd.key) := cell_of_row w g 4 _ _ (0, 0) h
theorem NdB.c5 (h : NdB w g nd A n c A2 n2 k2) : w.cell? ⟨g, 5, none⟩ = some (.slice A n c) := cell_of_row w g 5 _ _ (0, 0) h
theorem NdB.c6 (h : NdB w g nd A n c A2 n2 k2) : w.cell? ⟨g, 6, none⟩ = some (.slice A2 n2 k2) := cell_of_row w g 6 _ _ (0, 0) h
theorem NdB.c7 (h : NdB w g nd A n c A2 n2 k2) : w.cell? ⟨g, 7, none⟩ = some (.int .i64 nd.note) := cell_of_row w g 7 _ _ (0, 0) h
theorem NdB.frozen (h : NdB w g nd A n c A2 n2 k2) (i : Nat) : w.frozen? ⟨g, i, none⟩ = false := by
  unfold NdB at h
  simp [World.frozen?, h]
end
theorem next_quiet (w : World) (hn : x.n ≤ 100000) (h : Dc w B p x) (k : Nat) : Calls Tryz.prog 34 #[.pointer (some ⟨p, 0, none⟩)] (w.drewN k) fun e w' => e = .returned (.int .i64 (x.n + 1)) ∧ ∃ m, w' = w.drewN m :=
  (next_any (w.drewN k) hn rfl (h.drewN k)).mono fun _ _ ⟨he, hw⟩ => ⟨he, k, hw.symm⟩
theorem nd_kids {w : World} (h : Dc w B p x) (hwf : WF x.d) {k : Nat} (hk : k < x.rs.length) : x.rs[k].nd.attrs.length ≤ 1000 ∧ x.rs[k].nd.kids.length ≤ 1000 ∧ x.rs[k].nd.kids.Nodup ∧ (∀ c ∈ x.rs[k].nd.kids, ∃ j, ∃ hj : j < x.rs.length, x.rs[j].nd.id = c ∧ x.rs[j].nd.par = x.rs[k].nd.id) ∧ 1 ≤ x.rs[k].nd.id ∧ x.rs[k].nd.id ≤ x.n ∧ (x.rs[k].nd.tag.toList = [] → x.rs[k].nd.kids = []) := by
  have hm : x.rs[k].nd ∈ x.d.l := List.mem_map.2 ⟨_, List.getElem_mem hk, rfl⟩
  have hkd := (tag_at h hk rfl).2.2
  have hr := hwf.rng _ hm
  refine ⟨by have := hwf.att _ hm; omega, by have := hwf.kids_len hm; omega, by rw [← hkd]; exact hwf.tr.nod _, fun c hc => ?_, hr.1, hr.2, hwf.elem _ hm⟩
  obtain ⟨h1, h2⟩ := hwf.kid_has hm hc
  obtain ⟨j, hj, e1, _⟩ := h.place h1
  exact ⟨j, hj, e1, by rw [← (tag_at h hj e1).2.1]; exact h2⟩
theorem par_place {w : World} (h : Dc w B p x) (hwf : WF x.d) {k : Nat} (hk : k < x.rs.length) (h0 : x.rs[k].nd.par ≠ 0) : ∃ j, ∃ hj : j < x.rs.length, x.rs[j].nd.id = x.rs[k].nd.par := by
  have hp := (tag_at h hk rfl).2.1
  have : hasL x.d.l (parOf x.d.l x.rs[k].nd.id) = true := hwf.tr.hpar (by rw [show parOf x.d.l x.rs[k].nd.id = x.rs[k].nd.par from hp]; exact h0)
  rw [show parOf x.d.l x.rs[k].nd.id = x.rs[k].nd.par from hp] at this
  obtain ⟨j, hj, e, _⟩ := h.place this
  exact ⟨j, hj, e⟩

/-- what the law has told it of a node: its block, its children, all new -/
structure Seen (wc : World) (g : Nat) (nd : Nd) (A : Option Addr) (n c : Nat) (A2 : Option Addr) (n2 k2 : Nat) (w : World) : Prop where
  nb : NdB w g nd A n c A2 n2 k2
  hk : kI.Holds w w.heap.size A2 nd.kids
  bl : Below wc.heap.size wc w
theorem Seen.below {wc w w' : World} {g : Nat} {nd : Nd} {A A2 : Option Addr} {n c n2 k2 : Nat} (h : Seen wc g nd A n c A2 n2 k2 w) (hb : Below w.heap.size w w') : Seen wc g nd A n c A2 n2 k2 w' :=
  ⟨h.nb.below hb h.nb.lt, h.hk.on hb, h.bl.trans (hb.mono h.bl.size)⟩
theorem Seen.drewN {wc w : World} {g : Nat} {nd : Nd} {A A2 : Option Addr} {n c n2 k2 : Nat} (h : Seen wc g nd A n c A2 n2 k2 w) (k : Nat) : Seen wc g nd A n c A2 n2 k2 (w.drewN k) := ⟨h.nb, h.hk, Below_drewN h.bl k⟩
theorem NdB.set8 {w : World} {g : Nat} {nd nd' : Nd} {A A2 A' A2' : Option Addr} {n c n2 k2 n' c' n2' k2' : Nat} (h : NdB w g nd A n c A2 n2 k2) :
    NdB ((((((((w.setCell ⟨g, 0, none⟩ (.int .i64 nd'.id)).setCell ⟨g, 1, none⟩ (.int .i64 nd'.par)).setCell ⟨g, 2, none⟩ (.string nd'.tag)).setCell ⟨g, 3, none⟩ (.string nd'.txt)).setCell ⟨g, 4, none⟩ (.string nd'.key)).setCell ⟨g, 5, none⟩ (.slice A' n' c')).setCell ⟨g, 6, none⟩ (.slice A2' n2' k2')).setCell ⟨g, 7, none⟩ (.int .i64 nd'.note)) g nd' A' n' c' A2' n2' k2' := by
  unfold NdB at h ⊢
  simp [World.setCell, Array.getElem?_modify, h]
theorem dep_len {l : List Nd} (h : Tr (fun y => hasL l y = true) (parOf l) (kidsOf l)) {y : Int} (hy : hasL l y = true) : depOf (parOf l) y ≤ l.length := by
  obtain ⟨k, hk⟩ := h.dep y
  have := h.dep_le (L := idsOf l) (fun y hy => has_ids.1 hy) hy hk
  rw [depOf_is hk]
  simpa [idsOf] using this
/-- on the way up: the node in the block, and how many steps are left -/
def UpAt (wc : World) (x : Dx) (g : Nat) (s N : Nat) (w : World) : Prop :=
  ∃ (j : Nat) (hj : j < x.rs.length) (A : Option Addr) (n c : Nat) (A2 : Option Addr) (n2 k2 : Nat), NdB w g x.rs[j].nd A n c A2 n2 k2 ∧ s + depOf (parOf x.l) x.rs[j].nd.id ≤ N ∧ Below wc.heap.size wc w ∧ wc.heap.size ≤ g
theorem one_of {l : List Int} (h : l.Nodup) {i j : Nat} (hi : i < l.length) (hj : j < l.length) (hij : i < j) : (l[i] == l[j]) = false := by
  rw [beq_eq_false_iff_ne]
  have := List.pairwise_iff_getElem.1 h i j hi hj hij
  exact this
end Go.Proofs.YtihjdmdafiifhaaGreat.P5
