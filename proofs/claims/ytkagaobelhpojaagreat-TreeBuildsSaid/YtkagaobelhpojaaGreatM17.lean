/- An argument that is a slice of some kind, opened; the last step of a row whose arguments are read alone. For any program. No condition. -/
import Derived.Deep.Slices
import Derived.ChangeSame
import Derived.Carry
import Derived.Test.YtkagaobelhpojaaGreatM1
import Derived.Test.YtkagaobelhpojaaGreatM7
import Derived.Test.YtkagaobelhpojaaGreatM9
import Derived.Test.YtkagaobelhpojaaGreatM16
set_option linter.unusedVariables false
set_option linter.unusedSimpArgs false
namespace Go.Proofs.YtkagaobelhpojaaGreat.Kd
open Go.RowKit Go.ChangeShapes Go.WideShapes Go.Deep

theorem spot_none {w : World} {a : Addr} {v : Value} (h : w.cell? a = some v) : a.spot = none := by
  unfold World.cell? at h
  split at h
  · split at h
    · cases h
    · rename_i hs; simpa using hs
  · cases h

theorem Kind.open_ {P : Program} {α : Type} (K : Kind P α) {H : Type} {enc : TypeId × Value → H} {w : World} {v : Value} {d : DataW H} {p : List MemPlace} {base : Nat} (inh : α) (Wf : α → Prop)
    (hce : P.cellsOf K.e = K.size) (hel : ∀ fuel cs x, DataW.trod enc P w 0 (fun _ => true) true fuel K.e cs = some x → cs.length = K.size → ∃ a, cs = K.cs a ∧ Wf a)
    (hv : Value.okWide P w .any base K.t v) (h : DataW.Trod enc P w 0 (fun _ => true) true K.t v d p) :
    ∃ A n c l, v = .slice A n c ∧ l.length = n ∧ n ≤ c ∧ c ≤ maxLen ∧ (∀ a ∈ l, Wf a) ∧ K.Holds w w.heap.size A l := by
  obtain ⟨a, len, cap, rfl⟩ := okWide_slice K.ht hv
  obtain ⟨fuel, hf⟩ := h
  rcases open_slice K.ht hf with ⟨hcs, _⟩ | ⟨ad, len', cap', m, n, D, Pl, hcs, hb, hl, hm, hmm, _, hi⟩
  · have e : Value.slice a len cap = .slice Option.none 0 0 := by simpa [Value.cells] using hcs
    injection e with e1 e2 e3
    subst e1; subst e2; subst e3
    exact ⟨_, _, _, [], rfl, rfl, by omega, by unfold maxLen; omega, fun _ h => absurd h (by simp), Kind.Holds.nil _ _ _⟩
  · have e : Value.slice a len cap = .slice (some ad) len' cap' := by simpa [Value.cells] using hcs
    injection e with e1 e2 e3
    subst e1; subst e2; subst e3
    have hmc : m = cap := by simpa using hmm
    subst hmc
    have each : ∀ i, i < len → ∃ x : α, Wf x ∧ ∀ j, j < K.size → w.cell? (ad.add (i * K.size + j)) = (K.cs x)[j]? := by
      intro i hil
      obtain ⟨cs', h1, h2⟩ := hi i (by omega)
      rw [hce] at h1
      obtain ⟨_, hlen, hcell⟩ := World.cells?_some h1
      obtain ⟨x, rfl, hw⟩ := hel _ _ _ h2 hlen
      refine ⟨x, hw, fun j hj => ?_⟩
      have := hcell j hj
      rwa [add_add] at this
    have hinh : Inhabited α := ⟨inh⟩
    obtain ⟨f, hfx⟩ := choose_lt each
    refine ⟨_, _, _, (List.range len).map f, rfl, by simp, hl, hm, fun x hx => ?_, fun j u hj => ?_⟩
    · obtain ⟨i, hi', rfl⟩ := List.mem_map.1 hx
      exact (hfx i (List.mem_range.1 hi')).1
    · have hjl : j < len * K.size := by
        have := (List.getElem?_eq_some_iff.1 hj).1
        rw [Kind.cells_len] at this
        simpa using this
      have hpos := K.hpos
      have hdm : K.size * (j / K.size) + j % K.size = j := Nat.div_add_mod j K.size
      have hmod : j % K.size < K.size := Nat.mod_lt _ hpos
      have hdiv : j / K.size < len := by rw [Nat.div_lt_iff_lt_mul hpos]; exact hjl
      have hje : j / K.size * K.size + j % K.size = j := by rw [Nat.mul_comm]; exact hdm
      have hk : j / K.size < ((List.range len).map f).length := by simpa using hdiv
      have hcell := (hfx _ hdiv).2 _ hmod
      rw [hje] at hcell
      have hat := K.cells_at _ _ hk _ hmod
      rw [hje, hj] at hat
      have hcu : w.cell? (ad.add j) = some u := by rw [hcell, hat]; simp
      have hsp : ad.spot = Option.none := by
        have z0 := (hfx 0 (Nat.lt_of_le_of_lt (Nat.zero_le _) hdiv)).2 0 hpos
        rw [List.getElem?_eq_getElem (by rw [K.len]; exact hpos)] at z0
        exact spot_none (a := ad) (by simpa [Addr.add] using z0)
      obtain ⟨b, o, sp⟩ := ad
      simp only at hsp
      subst hsp
      rw [add_plain] at hcu
      exact ⟨b, o, rfl, block_lt_of_cell hcu, hcu⟩

/-- the arguments read behind the call as before, no named variable, nothing asked of what comes again -/
theorem post_read {H : Type} {enc : TypeId × Value → H} {P : Program} {f : Func} {s : ChangeSpec} {W W' : World} {args : Array Value} {v : Value} {ds gs : List (DataW H)} {before : List MemPlace}
    (hW : DataW.Whole enc P f.params.toList s.vars false W args.toList ds gs before)
    (hres : DataW.TrodAll enc P W' W.heap.size (fun _ => false) false f.resultTypes.toList (v.resultList f.resultTypes.size) (s.fn H (ds ++ gs)).results [])
    (hargs : DataW.TrodAll enc P W' 0 (fun b => decide (b < W.heap.size)) true f.params.toList args.toList (s.fn H (ds ++ gs)).args before)
    (hvars : DataW.TrodVars enc P W' (fun b => decide (b < W.heap.size)) s.vars (s.fn H (ds ++ gs)).vars [])
    (hb : Below W.heap.size W W') : s.post enc P f false true false false W args v W' :=
  ⟨ds, gs, before, [], before, [], hW, hres, hargs, hvars, World.keptBut_mono (fun _ hp => ⟨hp, .inr (.inl hp)⟩) (hb.frame (· ∈ before)), fun h => by cases h⟩
end Go.Proofs.YtkagaobelhpojaaGreat.Kd

/- The deeds of layer 5's laws, opened out of an argument. No condition. -/
namespace Go.Proofs.YtkagaobelhpojaaGreat.P5
open Go.RowKit Go.ChangeShapes Go.WideShapes Go.Deep Kd P4

theorem open_fuel {P : Program} {α : Type} (K : Kind P α) {H : Type} {enc : TypeId × Value → H} {w : World} {cs : List Value} {x : DataW H × List MemPlace} {fuel : Nat} (inh : α) (Wf : α → Prop)
    (hce : P.cellsOf K.e = K.size) (hel : ∀ fuel cs x, DataW.trod enc P w 0 (fun _ => true) true fuel K.e cs = some x → cs.length = K.size → ∃ a, cs = K.cs a ∧ Wf a)
    (hf : DataW.trod enc P w 0 (fun _ => true) true fuel K.t cs = some x) :
    ∃ A n c l, cs = [.slice A n c] ∧ l.length = n ∧ n ≤ c ∧ c ≤ maxLen ∧ (A = none → c = 0) ∧ (∀ a ∈ l, Wf a) ∧ K.Holds w w.heap.size A l := by
  rcases open_slice K.ht hf with ⟨hcs, _⟩ | ⟨ad, len, cap, m, n, D, Pl, hcs, hb, hl, hm, hmm, _, hi⟩
  · exact ⟨none, 0, 0, [], hcs, rfl, Nat.le_refl _, by unfold maxLen; omega, fun _ => rfl, fun _ h => absurd h (by simp), Kind.Holds.nil _ _ _⟩
  · have hmc : m = cap := by simpa using hmm
    subst hmc
    have each : ∀ i, i < len → ∃ x : α, Wf x ∧ ∀ j, j < K.size → w.cell? (ad.add (i * K.size + j)) = (K.cs x)[j]? := by
      intro i hil
      obtain ⟨cs', h1, h2⟩ := hi i (by omega)
      rw [hce] at h1
      obtain ⟨_, hlen, hcell⟩ := World.cells?_some h1
      obtain ⟨x, rfl, hw⟩ := hel _ _ _ h2 hlen
      refine ⟨x, hw, fun j hj => ?_⟩
      have := hcell j hj
      rwa [add_add] at this
    have hinh : Inhabited α := ⟨inh⟩
    obtain ⟨f, hfx⟩ := choose_lt each
    refine ⟨_, _, _, (List.range len).map f, hcs, by simp, hl, hm, fun e => (by cases e), fun x hx => ?_, fun j u hj => ?_⟩
    · obtain ⟨i, hi', rfl⟩ := List.mem_map.1 hx
      exact (hfx i (List.mem_range.1 hi')).1
    · have hjl : j < len * K.size := by
        have := (List.getElem?_eq_some_iff.1 hj).1
        rw [Kind.cells_len] at this
        simpa using this
      have hpos := K.hpos
      have hdm : K.size * (j / K.size) + j % K.size = j := Nat.div_add_mod j K.size
      have hmod : j % K.size < K.size := Nat.mod_lt _ hpos
      have hdiv : j / K.size < len := by rw [Nat.div_lt_iff_lt_mul hpos]; exact hjl
      have hje : j / K.size * K.size + j % K.size = j := by rw [Nat.mul_comm]; exact hdm
      have hk : j / K.size < ((List.range len).map f).length := by simpa using hdiv
      have hcell := (hfx _ hdiv).2 _ hmod
      rw [hje] at hcell
      have hat := K.cells_at _ _ hk _ hmod
      rw [hje, hj] at hat
      have hcu : w.cell? (ad.add j) = some u := by rw [hcell, hat]; simp
      have hsp : ad.spot = Option.none := by
        have z0 := (hfx 0 (Nat.lt_of_le_of_lt (Nat.zero_le _) hdiv)).2 0 hpos
        rw [List.getElem?_eq_getElem (by rw [K.len]; exact hpos)] at z0
        exact spot_none (a := ad) (by simpa [Addr.add] using z0)
      obtain ⟨b, o, sp⟩ := ad
      simp only at hsp
      subst hsp
      rw [add_plain] at hcu
      exact ⟨b, o, rfl, block_lt_of_cell hcu, hcu⟩

theorem cellsI : Tryz.prog.cellsOf 3 = 1 := by kernel_rfl
theorem cellsI64 : Tryz.prog.cellsOf 2 = 1 := by kernel_rfl
theorem cellsS : Tryz.prog.cellsOf 9 = 1 := by kernel_rfl
theorem cellsB : Tryz.prog.cellsOf 4 = 1 := by kernel_rfl
theorem cellsLA : Tryz.prog.cellsOf 23 = 1 := by kernel_rfl
theorem cellsAt : Tryz.prog.cellsOf 88 = 3 := by kernel_rfl
theorem cellsRec : Tryz.prog.cellsOf 57 = 8 := by kernel_rfl
theorem cellsDe : Tryz.prog.cellsOf 59 = 12 := by kernel_rfl
theorem laidOut : laidOutB Tryz.prog = true := by kernel_rfl

set_option maxRecDepth 100000 in
theorem open_at {H : Type} {enc : TypeId × Value → H} {w : World} {fuel : Nat} {cs : List Value} {x : DataW H × List MemPlace} (hx : DataW.trod enc Tryz.prog w 0 (fun _ => true) true fuel 88 cs = some x) (hlen : cs.length = 3) :
    ∃ a : P3.At, cs = kA.cs a ∧ (a.nm.size ≤ maxLen ∧ a.vl.size ≤ maxLen) := by
  obtain ⟨xs, k, hk, hxy, _, hxl, hg⟩ := DataW.trod_struct Tryz.underlying88 hx
  match cs, hlen with
  | [v0, v1, v2], _ =>
    have g0 := hg 0 _ rfl
    have g1 := hg 1 _ rfl
    have g2 := hg 2 _ rfl
    simp [cellsS, cellsB] at g0 g1 g2
    have x0 : xs[0]? = some (xs[0]'(by rw [hxl]; decide)) := List.getElem?_eq_getElem _
    have x1 : xs[1]? = some (xs[1]'(by rw [hxl]; decide)) := List.getElem?_eq_getElem _
    have x2 : xs[2]? = some (xs[2]'(by rw [hxl]; decide)) := List.getElem?_eq_getElem _
    rw [x0] at g0
    rw [x1] at g1
    rw [x2] at g2
    obtain ⟨s0, hs0, _, hz0⟩ := DataW.trod_string Tryz.underlying9 g0
    obtain ⟨s1, hs1, _, hz1⟩ := DataW.trod_string Tryz.underlying9 g1
    obtain ⟨s2, hs2, _⟩ := DataW.trod_bool Tryz.underlying4 g2
    injection hs0 with hs0 _
    injection hs1 with hs1 _
    injection hs2 with hs2 _
    subst hs0; subst hs1; subst hs2
    exact ⟨⟨s0, s1, s2⟩, rfl, hz0, hz1⟩
set_option maxRecDepth 100000 in
theorem open_deed {H : Type} {enc : TypeId × Value → H} {w : World} {fuel : Nat} {cs : List Value} {x : DataW H × List MemPlace} (hx : DataW.trod enc Tryz.prog w 0 (fun _ => true) true fuel 59 cs = some x) (hlen : cs.length = 12) :
    ∃ a : RE, cs = kE.cs a ∧ DeedOk w a := by
  obtain ⟨xs, k, hk, hxy, _, hxl, hg⟩ := DataW.trod_struct Tryz.underlying59 hx
  match cs, hlen with
  | [v0, v1, v2, v3, v4, v5, v6, v7, v8, v9, v10, v11], _ =>
    have g0 := hg 0 _ rfl
    have g1 := hg 1 _ rfl
    have g2 := hg 2 _ rfl
    have g3 := hg 3 _ rfl
    have g4 := hg 4 _ rfl
    simp [cellsI, cellsB, cellsRec, cellsI64] at g0 g1 g2 g3 g4
    have x0 : xs[0]? = some (xs[0]'(by rw [hxl]; decide)) := List.getElem?_eq_getElem _
    have x1 : xs[1]? = some (xs[1]'(by rw [hxl]; decide)) := List.getElem?_eq_getElem _
    have x2 : xs[2]? = some (xs[2]'(by rw [hxl]; decide)) := List.getElem?_eq_getElem _
    have x3 : xs[3]? = some (xs[3]'(by rw [hxl]; decide)) := List.getElem?_eq_getElem _
    have x4 : xs[4]? = some (xs[4]'(by rw [hxl]; decide)) := List.getElem?_eq_getElem _
    rw [x0] at g0
    rw [x1] at g1
    rw [x2] at g2
    rw [x3] at g3
    rw [x4] at g4
    obtain ⟨s0, hs0, _, hz0⟩ := DataW.trod_int Tryz.underlying3 g0
    obtain ⟨s1, hs1, _⟩ := DataW.trod_bool Tryz.underlying4 g1
    obtain ⟨s10, hs10, _⟩ := DataW.trod_int Tryz.underlying3 g3
    obtain ⟨s11, hs11, _⟩ := DataW.trod_int Tryz.underlying2 g4
    obtain ⟨ys, k', hk', hxy', _, hyl, hh⟩ := DataW.trod_struct Tryz.underlying57 g2
    have y0 := hh 0 _ rfl
    have y1 := hh 1 _ rfl
    have y2 := hh 2 _ rfl
    have y3 := hh 3 _ rfl
    have y4 := hh 4 _ rfl
    have y5 := hh 5 _ rfl
    have y6 := hh 6 _ rfl
    have y7 := hh 7 _ rfl
    simp [cellsI, cellsS, cellsLA] at y0 y1 y2 y3 y4 y5 y6 y7
    have z0 : ys[0]? = some (ys[0]'(by rw [hyl]; decide)) := List.getElem?_eq_getElem _
    have z1 : ys[1]? = some (ys[1]'(by rw [hyl]; decide)) := List.getElem?_eq_getElem _
    have z2 : ys[2]? = some (ys[2]'(by rw [hyl]; decide)) := List.getElem?_eq_getElem _
    have z3 : ys[3]? = some (ys[3]'(by rw [hyl]; decide)) := List.getElem?_eq_getElem _
    have z4 : ys[4]? = some (ys[4]'(by rw [hyl]; decide)) := List.getElem?_eq_getElem _
    have z5 : ys[5]? = some (ys[5]'(by rw [hyl]; decide)) := List.getElem?_eq_getElem _
    have z6 : ys[6]? = some (ys[6]'(by rw [hyl]; decide)) := List.getElem?_eq_getElem _
    have z7 : ys[7]? = some (ys[7]'(by rw [hyl]; decide)) := List.getElem?_eq_getElem _
    rw [z0] at y0
    rw [z1] at y1
    rw [z2] at y2
    rw [z3] at y3
    rw [z4] at y4
    rw [z5] at y5
    rw [z6] at y6
    rw [z7] at y7
    obtain ⟨t0, ht0, _⟩ := DataW.trod_int Tryz.underlying3 y0
    obtain ⟨t1, ht1, _⟩ := DataW.trod_int Tryz.underlying3 y1
    obtain ⟨t2, ht2, _⟩ := DataW.trod_int Tryz.underlying3 y2
    obtain ⟨t3, ht3, _⟩ := DataW.trod_int Tryz.underlying3 y3
    obtain ⟨t4, ht4, _, hl4⟩ := DataW.trod_string Tryz.underlying9 y4
    obtain ⟨t5, ht5, _, hl5⟩ := DataW.trod_string Tryz.underlying9 y5
    obtain ⟨t6, ht6, _, hl6⟩ := DataW.trod_string Tryz.underlying9 y6
    obtain ⟨A, n, c, l, ht7, b1, b2, b3, b4, b5, b6⟩ := open_fuel kA (⟨⟨#[]⟩, ⟨#[]⟩, false⟩ : P3.At) (fun a => a.nm.size ≤ maxLen ∧ a.vl.size ≤ maxLen) cellsAt (fun _ _ _ h hl => open_at h hl) y7
    injection hs0 with hs0 _
    injection hs1 with hs1 _
    injection hs10 with hs10 _
    injection hs11 with hs11 _
    injection ht0 with ht0 _
    injection ht1 with ht1 _
    injection ht2 with ht2 _
    injection ht3 with ht3 _
    injection ht4 with ht4 _
    injection ht5 with ht5 _
    injection ht6 with ht6 _
    injection ht7 with ht7 _
    subst hs0; subst hs1; subst hs10; subst hs11; subst ht0; subst ht1; subst ht2; subst ht3; subst ht4; subst ht5; subst ht6; subst ht7
    simp [Lit.wf] at hz0
    exact ⟨⟨s0, s1, t0, t1, t2, t3, t4, t5, t6, ⟨A, n, c⟩, s10, s11⟩, rfl, ⟨hz0.1, hz0.2, hl4, hl5, hl6, l, b1, b2, b3, b4, b6, b5⟩⟩
set_option maxRecDepth 100000 in
theorem open_deeds {H : Type} {enc : TypeId × Value → H} {w : World} {v : Value} {d : DataW H} {p : List MemPlace} {base : Nat}
    (hv : Value.okWide Tryz.prog w .any base 22 v) (h : DataW.Trod enc Tryz.prog w 0 (fun _ => true) true 22 v d p) :
    ∃ A n c l, v = .slice A n c ∧ l.length = n ∧ n ≤ c ∧ c ≤ maxLen ∧ (∀ a ∈ l, DeedOk w a) ∧ kE.Holds w w.heap.size A l := by
  obtain ⟨a, len, cap, rfl⟩ := okWide_slice Tryz.underlying22 hv
  obtain ⟨fuel, hf⟩ := h
  obtain ⟨A, n, c, l, hcs, h1, h2, h3, _, h5, h6⟩ := open_fuel kE (⟨0, false, 0, 0, 0, 0, ⟨#[]⟩, ⟨#[]⟩, ⟨#[]⟩, ⟨none, 0, 0⟩, 0, 0⟩ : RE) (DeedOk w) cellsDe (fun _ _ _ h hl => open_deed h hl) hf
  have e : Value.slice a len cap = .slice A n c := by simpa [Value.cells] using hcs
  exact ⟨A, n, c, l, e, h1, h2, h3, h5, h6⟩
end Go.Proofs.YtkagaobelhpojaaGreat.P5

/- Trees, plain: how many nodes, whether one may be, whether two are the same; a tree with its slices. No condition. -/
namespace Go.Proofs.YtkagaobelhpojaaGreat.P8
open Go.RowKit Kd P4 P5

inductive PT where
  | mk (tag txt key : ByteArray) (attrs : List P3.At) (kids : List PT)
/-- a tree, with the slices of its attributes and of its children -/
inductive TV where
  | mk (tag txt key : ByteArray) (sa : Sv) (attrs : List P3.At) (sk : Sv) (kids : List TV)
theorem PT.ind {Q : PT → Prop} (h : ∀ tag txt key attrs kids, (∀ k ∈ kids, Q k) → Q (.mk tag txt key attrs kids)) (t : PT) : Q t :=
  PT.rec (motive_1 := Q) (motive_2 := fun l => ∀ k ∈ l, Q k) (fun a b c d e ih => h a b c d e ih) (fun _ hk => by cases hk) (fun a l ha hl k hk => by
    rcases List.mem_cons.1 hk with rfl | hk
    · exact ha
    · exact hl k hk) t
theorem TV.ind {Q : TV → Prop} (h : ∀ tag txt key sa attrs sk kids, (∀ k ∈ kids, Q k) → Q (.mk tag txt key sa attrs sk kids)) (t : TV) : Q t :=
  TV.rec (motive_1 := Q) (motive_2 := fun l => ∀ k ∈ l, Q k) (fun a b c d e f g ih => h a b c d e f g ih) (fun _ hk => by cases hk) (fun a l ha hl k hk => by
    rcases List.mem_cons.1 hk with rfl | hk
    · exact ha
    · exact hl k hk) t
namespace TV
def tag : TV → ByteArray | .mk a _ _ _ _ _ _ => a
def txt : TV → ByteArray | .mk _ a _ _ _ _ _ => a
def key : TV → ByteArray | .mk _ _ a _ _ _ _ => a
def sa : TV → Sv | .mk _ _ _ a _ _ _ => a
def attrs : TV → List P3.At | .mk _ _ _ _ a _ _ => a
def sk : TV → Sv | .mk _ _ _ _ _ a _ => a
def kids : TV → List TV | .mk _ _ _ _ _ _ a => a
end TV
namespace PT
def tag : PT → ByteArray | .mk a _ _ _ _ => a
def txt : PT → ByteArray | .mk _ a _ _ _ => a
def key : PT → ByteArray | .mk _ _ a _ _ => a
def attrs : PT → List P3.At | .mk _ _ _ a _ => a
def kids : PT → List PT | .mk _ _ _ _ a => a
end PT
mutual
def er : TV → PT
  | .mk tag txt key _ attrs _ kids => .mk tag txt key attrs (erL kids)
def erL : List TV → List PT
  | [] => []
  | a :: l => er a :: erL l
end
theorem erL_map : ∀ l : List TV, erL l = l.map er
  | [] => by simp [erL]
  | a :: l => by simp [erL, erL_map l]

/-! ### How many -/
mutual
def countP : PT → Nat
  | .mk _ _ _ _ kids => countL kids + 1
def countL : List PT → Nat
  | [] => 0
  | a :: l => countP a + countL l
end
theorem count_pos (t : PT) : 1 ≤ countP t := by cases t; simp [countP]
theorem countL_append : ∀ l m : List PT, countL (l ++ m) = countL l + countL m
  | [], m => by simp [countL]
  | a :: l, m => by simp [countL, countL_append l m]; omega
theorem countL_take {l : List PT} {k : Nat} (h : k < l.length) : countL (l.take (k + 1)) = countL (l.take k) + countP l[k] := by
  rw [List.take_add_one, List.getElem?_eq_getElem h, countL_append]
  simp [countL]
theorem countL_le (l : List PT) (k : Nat) : countL (l.take k) ≤ countL l := by
  have := countL_append (l.take k) (l.drop k)
  rw [List.take_append_drop] at this
  omega
theorem countL_at {l : List PT} {k : Nat} (h : k < l.length) : countP l[k] ≤ countL l := by
  have h1 := countL_take h
  have h2 := countL_le l (k + 1)
  omega
theorem len_le_count : ∀ l : List PT, l.length ≤ countL l
  | [] => by simp [countL]
  | a :: l => by have := len_le_count l; have := count_pos a; simp [countL]; omega

/-! ### Few, and short -/
mutual
def fewP : PT → Bool
  | .mk tag txt key attrs kids => decide (tag.size ≤ 100) && decide (txt.size ≤ 100) && decide (key.size ≤ 100) && P3.fewA attrs && fewL kids
def fewL : List PT → Bool
  | [] => true
  | a :: l => fewP a && fewL l
end
theorem fewL_all : ∀ l : List PT, fewL l = l.all fewP
  | [] => by simp [fewL]
  | a :: l => by simp [fewL, fewL_all l]
theorem fewL_take {l : List PT} {k : Nat} (h : k < l.length) (h1 : fewL (l.take k) = true) (h2 : fewP l[k] = true) : fewL (l.take (k + 1)) = true := by
  rw [fewL_all] at h1 ⊢
  rw [List.take_add_one, List.getElem?_eq_getElem h, List.all_append, h1]
  simp [h2]
theorem fewL_at {l : List PT} {k : Nat} (h : k < l.length) (h1 : fewL l = true) : fewP l[k] = true := by
  rw [fewL_all, List.all_eq_true] at h1
  exact h1 _ (List.getElem_mem h)
theorem few_wf {l : List P3.At} (h : P3.fewA l = true) : P3.Wf l ∧ l.length ≤ 20 := by
  unfold P3.fewA at h
  rw [Bool.and_eq_true, List.all_eq_true] at h
  refine ⟨fun a ha => ?_, by simpa using h.1⟩
  have := h.2 a ha
  unfold P3.shortA at this
  simp at this
  unfold maxLen
  omega

/-! ### Whether it may be -/
mutual
def mayP : PT → Bool
  | .mk tag txt key attrs kids =>
    if tag.toList.isEmpty then P1.textB txt.data.toList && key.toList.isEmpty && attrs.isEmpty && kids.isEmpty
    else P1.nameB tag.data.toList && P1.textB key.data.toList && P3.mayA attrs && txt.toList.isEmpty && !(P1.voidB tag.data.toList && !kids.isEmpty) && mayL kids
def mayL : List PT → Bool
  | [] => true
  | a :: l => mayP a && mayL l
end
theorem mayL_all : ∀ l : List PT, mayL l = l.all mayP
  | [] => by simp [mayL]
  | a :: l => by simp [mayL, mayL_all l]
theorem mayL_bad {l : List PT} {k : Nat} (h : k < l.length) (hb : mayP l[k] = false) : mayL l = false := by
  rw [mayL_all]
  exact Bool.eq_false_iff.2 fun e => by
    rw [List.all_eq_true] at e
    have := e _ (List.getElem_mem h)
    rw [hb] at this
    cases this
theorem mayL_take {l : List PT} {k : Nat} (h : k < l.length) (h1 : mayL (l.take k) = true) (h2 : mayP l[k] = true) : mayL (l.take (k + 1)) = true := by
  rw [mayL_all] at h1 ⊢
  rw [List.take_add_one, List.getElem?_eq_getElem h, List.all_append, h1]
  simp [h2]

/-! ### Whether two are the same -/
mutual
def sameP : PT → PT → Bool
  | .mk t x k a l, .mk t' x' k' a' l' => P3.sameA a a' && (t.toList == t'.toList) && (x.toList == x'.toList) && (k.toList == k'.toList) && sameL l l'
def sameL : List PT → List PT → Bool
  | [], [] => true
  | a :: l, b :: m => sameP a b && sameL l m
  | [], _ :: _ => false
  | _ :: _, [] => false
end
theorem sameL_len : ∀ {l m : List PT}, l.length ≠ m.length → sameL l m = false
  | [], [], h => absurd rfl h
  | [], _ :: _, _ => by simp [sameL]
  | _ :: _, [], _ => by simp [sameL]
  | a :: l, b :: m, h => by simp [sameL, sameL_len (l := l) (m := m) (by simpa using h)]
theorem sameL_bad : ∀ {l m : List PT} {k : Nat} (h : k < l.length) (h' : k < m.length), sameP l[k] m[k] = false → sameL l m = false
  | [], _, _, h, _, _ => by simp at h
  | _ :: _, [], _, _, h, _ => by simp at h
  | a :: l, b :: m, 0, _, _, e => by simp only [List.getElem_cons_zero] at e; simp [sameL, e]
  | a :: l, b :: m, k + 1, h, h', e => by simp only [List.getElem_cons_succ] at e; simp [sameL, sameL_bad (by simpa using h) (by simpa using h') e]
theorem sameL_all : ∀ {l m : List PT}, l.length = m.length → (∀ k (h : k < l.length) (h' : k < m.length), sameP l[k] m[k] = true) → sameL l m = true
  | [], [], _, _ => by simp [sameL]
  | [], _ :: _, h, _ => by simp at h
  | _ :: _, [], h, _ => by simp at h
  | a :: l, b :: m, h, e => by
    have h0 := e 0 (by simp) (by simp)
    simp only [List.getElem_cons_zero] at h0
    rw [sameL, h0, Bool.true_and]
    exact sameL_all (by simpa using h) fun k hk hk' => by
      have := e (k + 1) (by simpa using hk) (by simpa using hk')
      simpa using this
theorem sameP_refl (t : PT) : sameP t t = true := by
  induction t using PT.ind with
  | h tag txt key attrs kids ih =>
    rw [sameP, P3.sameA_refl, sameL_all rfl fun k h _ => ih _ (List.getElem_mem h)]
    simp
end Go.Proofs.YtkagaobelhpojaaGreat.P8

/- Trees as they lie in memory: a slice of them, one that is read whole. No condition. -/
namespace Go.Proofs.YtkagaobelhpojaaGreat.P8
open Go.RowKit Kd P4 P5

theorem infoT : (Tryz.prog.info? 26).map (fun i => (i.zero, i.size, i.bytes)) = some (some (.agg #[.string ⟨#[]⟩, .string ⟨#[]⟩, .string ⟨#[]⟩, .slice none 0 0, .slice none 0 0]), 5, 96) := by kernel_rfl
def TV.cells (a : TV) : List Value := [.string a.tag, .string a.txt, .string a.key, .slice a.sa.A a.sa.n a.sa.c, .slice a.sk.A a.sk.n a.sk.c]
def kT : Kind Tryz.prog TV where
  t := 24
  e := 26
  size := 5
  bytes := 96
  z := .agg #[.string ⟨#[]⟩, .string ⟨#[]⟩, .string ⟨#[]⟩, .slice none 0 0, .slice none 0 0]
  cs := TV.cells
  ht := Tryz.underlying24
  info := info_ex infoT
  hzs := rfl
  hpos := by decide
  hbb := by decide
  len := fun _ => rfl
  one := fun a u hu => by simp [TV.cells] at hu; rcases hu with rfl | rfl | rfl | rfl | rfl <;> rfl
theorem cell_of_trees {w : World} {B : Nat} {A : Option Addr} {l : List TV} (h : kT.Holds w B A l) {k : Nat} (hk : k < l.length) :
    ∃ b o, A = some ⟨b, o, none⟩ ∧ b < B ∧ w.cell? ⟨b, o + k * 5, none⟩ = some (.string l[k].tag) ∧ w.cell? ⟨b, o + k * 5 + 1, none⟩ = some (.string l[k].txt) ∧ w.cell? ⟨b, o + k * 5 + 2, none⟩ = some (.string l[k].key) ∧
      w.cell? ⟨b, o + k * 5 + 3, none⟩ = some (.slice l[k].sa.A l[k].sa.n l[k].sa.c) ∧ w.cell? ⟨b, o + k * 5 + 4, none⟩ = some (.slice l[k].sk.A l[k].sk.n l[k].sk.c) := by
  obtain ⟨b, o, rfl, hb, hc⟩ := h.at hk
  exact ⟨b, o, rfl, hb, hc 0 _ rfl, hc 1 _ rfl, hc 2 _ rfl, hc 3 _ rfl, hc 4 _ rfl⟩
/-- a tree that is read, below block C -/
inductive TOk (w : World) (C : Nat) : TV → Prop
  | mk {tag txt key : ByteArray} {sa sk : Sv} {attrs : List P3.At} {kids : List TV} (al : attrs.length = sa.n) (ac : sa.n ≤ sa.c) (az : sa.A = none → sa.c = 0) (ah : kA.Holds w C sa.A attrs)
      (kl : kids.length = sk.n) (kc : sk.n ≤ sk.c) (kz : sk.A = none → sk.c = 0) (kh : kT.Holds w C sk.A kids) (ks : ∀ k ∈ kids, TOk w C k) : TOk w C (.mk tag txt key sa attrs sk kids)
section
variable {w w' : World} {C D : Nat} {t : TV}
theorem TOk.al (h : TOk w C t) : t.attrs.length = t.sa.n := by cases h; assumption
theorem TOk.ac (h : TOk w C t) : t.sa.n ≤ t.sa.c := by cases h; assumption
theorem TOk.az (h : TOk w C t) : t.sa.A = none → t.sa.c = 0 := by cases h; assumption
theorem TOk.ah (h : TOk w C t) : kA.Holds w C t.sa.A t.attrs := by cases h; assumption
theorem TOk.kl (h : TOk w C t) : t.kids.length = t.sk.n := by cases h; assumption
theorem TOk.kc (h : TOk w C t) : t.sk.n ≤ t.sk.c := by cases h; assumption
theorem TOk.kz (h : TOk w C t) : t.sk.A = none → t.sk.c = 0 := by cases h; assumption
theorem TOk.kh (h : TOk w C t) : kT.Holds w C t.sk.A t.kids := by cases h; assumption
theorem TOk.ks (h : TOk w C t) : ∀ k ∈ t.kids, TOk w C k := by cases h; assumption
theorem TOk.later (h : TOk w C t) (hb : Below D w w') (hC : C ≤ D) : TOk w' C t := by
  induction t using TV.ind with
  | h tag txt key sa attrs sk kids ih => exact ⟨h.al, h.ac, h.az, h.ah.below hb hC, h.kl, h.kc, h.kz, h.kh.below hb hC, fun k hk => ih k hk (h.ks k hk)⟩
theorem TOk.more (h : TOk w C t) (hC : C ≤ D) : TOk w D t := by
  induction t using TV.ind with
  | h tag txt key sa attrs sk kids ih => exact ⟨h.al, h.ac, h.az, h.ah.more hC, h.kl, h.kc, h.kz, h.kh.more hC, fun k hk => ih k hk (h.ks k hk)⟩
theorem TOk.on (h : TOk w w.heap.size t) (hb : Below w.heap.size w w') : TOk w' w'.heap.size t := (h.later hb (Nat.le_refl _)).more hb.size
end
theorem er_mk (t : TV) : er t = .mk t.tag t.txt t.key t.attrs (t.kids.map er) := by cases t; rw [er, erL_map]; rfl
theorem er_kids (t : TV) : (er t).kids = t.kids.map er := by rw [er_mk]; rfl
/-- a tree in a block of its own -/
def TB (w : World) (s : Nat) (t : TV) : Prop := w.heap[s]? = some (.cells #[.string t.tag, .string t.txt, .string t.key, .slice t.sa.A t.sa.n t.sa.c, .slice t.sk.A t.sk.n t.sk.c] 26 (0, 0))
section
variable {w w' : World} {s C : Nat} {t : TV}
theorem TB.new (w : World) (t : TV) : TB (w.alloc (.cells #[.string t.tag, .string t.txt, .string t.key, .slice t.sa.A t.sa.n t.sa.c, .slice t.sk.A t.sk.n t.sk.c] 26)) w.heap.size t := heap_alloc_new w _
theorem TB.lt (h : TB w s t) : s < w.heap.size := heap_lt h
theorem TB.below (h : TB w s t) (hb : Below C w w') (hC : s < C) : TB w' s t := (hb.block s hC).trans h
theorem TB.c0 (h : TB w s t) : w.cell? ⟨s, 0, none⟩ = some (.string t.tag) := cell_of_row w s 0 _ _ (0, 0) h
theorem TB.c1 (h : TB w s t) : w.cell? ⟨s, 1, none⟩ = some (.string t.txt) := cell_of_row w s 1 _ _ (0, 0) h
theorem TB.c2 (h : TB w s t) : w.cell? ⟨s, 2, none⟩ = some (.string t.key) := cell_of_row w s 2 _ _ (0, 0) h
theorem TB.c3 (h : TB w s t) : w.cell? ⟨s, 3, none⟩ = some (.slice t.sa.A t.sa.n t.sa.c) := cell_of_row w s 3 _ _ (0, 0) h
theorem TB.c4 (h : TB w s t) : w.cell? ⟨s, 4, none⟩ = some (.slice t.sk.A t.sk.n t.sk.c) := cell_of_row w s 4 _ _ (0, 0) h
end
/-- a tree's texts, and its attributes', are no longer than texts may be -/
def Fits (t : TV) : Prop := t.tag.size ≤ maxLen ∧ t.txt.size ≤ maxLen ∧ t.key.size ≤ maxLen ∧ t.sa.c ≤ maxLen ∧ t.sk.c ≤ maxLen
inductive TFit : TV → Prop
  | mk {t : TV} (h : Fits t) (ks : ∀ k ∈ t.kids, TFit k) : TFit t
end Go.Proofs.YtkagaobelhpojaaGreat.P8
