/- A node that goes, or the error; each change. -/
import Derived.Test.YthdgaoifbejpjaaM2
import Derived.Test.YthdgaoifbejpjaaM4
import Derived.Test.YthdgaoifbejpjaaM5
import Derived.Test.YthdgaoifbejpjaaM8
import Derived.Test.YthdgaoifbejpjaaM9
set_option linter.unusedVariables false
set_option linter.unusedSimpArgs false
set_option linter.unusedVariables false
set_option linter.unusedSimpArgs false
namespace Go.Proofs.Ythdgaoifbejpjaa.P5
open Go.RowKit Kd P4
variable {B p : Nat} {x : Dx}

theorem sub_zero {l : List Nd} (h : Tr (fun y => hasL l y = true) (parOf l) (kidsOf l)) (f : Nat) (c : Int) : (0 : Int) ∉ sub (kidsOf l) f c ∨ c = 0 := by
  by_cases e : c = 0
  · exact .inr e
  · refine .inl fun hm => e ?_
    obtain ⟨j, hj⟩ := h.sub_it f c 0 hm
    rw [h.it0] at hj
    exact hj.symm
/-! ### Apply -/
structure ArgR (w : World) (A : Option Addr) (n c : Nat) (r : Rc) : Prop where
  at_ : ArgA w A n c r.attrs
  tag : r.tag.size ≤ maxLen
  txt : r.txt.size ≤ maxLen
  key : r.key.size ≤ maxLen
theorem ArgR.below {w w' : World} {A : Option Addr} {n c : Nat} {r : Rc} (h : ArgR w A n c r) (hb : Below w.heap.size w w') : ArgR w' A n c r := ⟨h.at_.below hb, h.tag, h.txt, h.key⟩
end Go.Proofs.Ythdgaoifbejpjaa.P5

/- The law's Few of attributes: whether a list is short. -/
set_option linter.unusedVariables false
set_option linter.unusedSimpArgs false
namespace Go.Proofs.Ythdgaoifbejpjaa.P3
open Go.RowKit

theorem fewA_long {l : List At} (h : 20 < l.length) : fewA l = false := by unfold fewA; simp; omega
theorem fewA_bad {l : List At} {k : Nat} (hk : k < l.length) (h : shortA l[k] = false) : fewA l = false := by
  unfold fewA
  have : l.all shortA = false := by
    rw [List.all_eq_false]
    exact ⟨l[k], List.getElem_mem hk, by simp [h]⟩
  rw [this, Bool.and_false]
def ShortTo (l : List At) (k : Nat) : Prop := ∀ j (h : j < l.length), j < k → shortA l[j] = true
theorem ShortTo.zero (l : List At) : ShortTo l 0 := fun _ _ h => absurd h (by omega)
theorem ShortTo.next {l : List At} {k : Nat} (h : ShortTo l k) (hk : k < l.length) (hb : shortA l[k] = true) : ShortTo l (k + 1) := by
  intro j hj hlt
  by_cases e : j = k
  · subst e; exact hb
  · exact h j hj (by omega)
theorem ShortTo.all {l : List At} {k : Nat} (h : ShortTo l k) (hl : l.length ≤ k) (h20 : l.length ≤ 20) : fewA l = true := by
  unfold fewA
  have : l.all shortA = true := by
    rw [List.all_eq_true]
    intro x hx
    obtain ⟨j, hj, rfl⟩ := List.getElem_of_mem hx
    exact h j hj (by omega)
  rw [this, Bool.and_true]
  exact decide_eq_true h20
def fewN (l : List At) : Int := if fewA l then 1 else 0
theorem ret_few {l : List At} {b : Bool} {x : Int} (h : fewA l = b) (hx : x = if b then 1 else 0) : Ending.returned (.int .i64 x) = .returned (.int .i64 (fewN l)) := by
  unfold fewN; rw [h, hx]
theorem short_no {a : At} (h : 100 < a.nm.size ∨ 100 < a.vl.size) : shortA a = false := by
  unfold shortA; rcases h with h | h <;> simp <;> omega
theorem short_yes {a : At} (h : a.nm.size ≤ 100) (h2 : a.vl.size ≤ 100) : shortA a = true := by
  unfold shortA; simp [h, h2]

set_option maxHeartbeats 400000 in
theorem few_any (l : List At) (A : Option Addr) (n c : Nat) (w : World) (hn : l.length = n) (hl : n ≤ 9223372036854775807) (H : Holds w w.heap.size A l) :
    Calls Try.prog 42 #[.slice A n c] w fun e w' => e = .returned (.int .i64 (fewN l)) ∧ w = w' := by
  have HH := Lib.hid H
  have HN := Lib.hid hn
  clear H hn
  go_enter Try.func42, Try.ntmps42
  go_wp2_with fail
  go_loop [3] (fun i => ∃ k : Nat, k ≤ n ∧ k ≤ 20 ∧ i = .int .i64 k ∧ Hid (ShortTo l k)) (fun i => n - (intOf i).toNat)
  case atStart => exact ⟨0, by omega, by omega, rfl, Lib.hid (ShortTo.zero _)⟩
  case round =>
    obtain ⟨k, hk, hk20, rfl, HS⟩ := hrel
    by_cases hlt : k < n
    · by_cases h20 : k < 20
      · have hlt' : k < l.length := by have := HN.out; omega
        obtain ⟨b, o, rfl, hb, h0, h1, h2⟩ := HH.out k hlt'
        by_cases hs1 : 100 < l[k].nm.size
        · go_wp2_with fail
          go_ret
          exact ⟨ret_few (fewA_bad hlt' (short_no (.inl hs1))) rfl, rfl⟩
        · by_cases hs2 : 100 < l[k].vl.size
          · go_wp2_with fail
            go_ret
            exact ⟨ret_few (fewA_bad hlt' (short_no (.inr hs2))) rfl, rfl⟩
          · go_wp2_with fail
            go_round
            case rel => exact ⟨k + 1, by omega, by omega, by go_num, Lib.hid (HS.out.next hlt' (short_yes (by omega) (by omega)))⟩
            case measure => simp [intOf]; omega
      · obtain rfl : k = 20 := by omega
        by_cases hn20 : 20 < n
        · go_wp2_with fail
          go_ret
          exact ⟨ret_few (fewA_long (by have := HN.out; omega)) rfl, rfl⟩
        · exact absurd hlt hn20
    · obtain rfl : k = n := by omega
      go_wp2_with fail
      go_ret
      exact ⟨ret_few (HS.out.all (by have := HN.out; omega) (by have := HN.out; omega)) rfl, rfl⟩
end Go.Proofs.Ythdgaoifbejpjaa.P3

/- The deeds of layer 5's laws, as they lie in memory; Few, Rec. -/
set_option linter.unusedVariables false
set_option linter.unusedSimpArgs false
namespace Go.Proofs.Ythdgaoifbejpjaa.P5
open Go.RowKit Kd P4
variable {B p : Nat} {x : Dx}

/-- a deed that came in: its texts are no longer than texts may be, its attributes lie in memory -/
structure DeedOk (w : World) (r : RE) : Prop where
  what1 : -9223372036854775808 ≤ r.what
  what2 : r.what ≤ 9223372036854775807
  tag : r.tag.size ≤ maxLen
  txt : r.txt.size ≤ maxLen
  key : r.key.size ≤ maxLen
  at_ : ∃ l : List P3.At, l.length = r.va.n ∧ r.va.n ≤ r.va.c ∧ r.va.c ≤ maxLen ∧ (r.va.A = none → r.va.c = 0) ∧ kA.Holds w w.heap.size r.va.A l ∧ P3.Wf l
theorem DeedOk.below {w w' : World} {r : RE} (h : DeedOk w r) (hb : Below w.heap.size w w') : DeedOk w' r := by
  obtain ⟨l, h1, h2, h3, h4, h5, h6⟩ := h.at_
  exact ⟨h.what1, h.what2, h.tag, h.txt, h.key, l, h1, h2, h3, h4, h5.on hb, h6⟩
def Few5 (w : World) (l : List RE) (e : Ending) (w' : World) : Prop :=
  ∃ f : Int, e = .returned (.int .i64 f) ∧ (f = 0 ∨ f = 1 ∧ l.length ≤ 60 ∧ ∀ r ∈ l, r.va.n ≤ 20) ∧ Below w.heap.size w w'
theorem few5_no {w w' : World} {l : List RE} (hb : Below w.heap.size w w') : Few5 w l (.returned (.int .i64 0)) w' := ⟨0, rfl, .inl rfl, hb⟩
/-! ### Rec -/
/-- the change of a deed, of a document whose last identity is n -/
def recOf (r : RE) (n : Int) (l : List P3.At) : Rc := ⟨r.op, if r.next = true ∧ r.op = 1 then n + 1 else r.rid, r.par, r.bef, r.tag, r.txt, r.key, l⟩
def Recd (w : World) (r : RE) (n : Int) (e : Ending) (w' : World) : Prop :=
  e = .returned (.agg #[.int .i64 r.op, .int .i64 (if r.next = true ∧ r.op = 1 then n + 1 else r.rid), .int .i64 r.par, .int .i64 r.bef, .string r.tag, .string r.txt, .string r.key, .slice r.va.A r.va.n r.va.c]) ∧ Below w.heap.size w w'
end Go.Proofs.Ythdgaoifbejpjaa.P5

/- The deeds of layer 5's laws, opened out of an argument. No condition. -/
set_option linter.unusedVariables false
set_option linter.unusedSimpArgs false
namespace Go.Proofs.Ythdgaoifbejpjaa.P5
open Go.RowKit Go.ChangeShapes Go.WideShapes Go.Deep Kd P4

theorem open_fuel {P : Program} {α : Type} (K : Kind P α) {H : Type} {enc : TypeId × Value → H} {w : World} {cs : List Value} {x : DataW H × List MemPlace} {fuel : Nat} (inh : α) (Wf : α → Prop)
    (hce : P.cellsOf K.e = K.size) (hel : ∀ fuel cs x, DataW.trod enc P w 0 (fun _ => true) true fuel K.e cs = some x → cs.length = K.size → ∃ a, cs = K.cs a ∧ Wf a)
    (hf : DataW.trod enc P w 0 (fun _ => true) true fuel K.t cs = some x) :
    ∃ A n c l, cs = [.slice A n c] ∧ l.length = n ∧ n ≤ c ∧ c ≤ maxLen ∧ (A = none → c = 0) ∧ (∀ a ∈ l, Wf a) ∧ K.Holds w w.heap.size A l := by
  rcases open_slice K.ht hf with ⟨hcs, _⟩ | ⟨ad, len, cap, m, n, D, Pl, hcs, hb, hl, hm, hmm, _, hi⟩
  · exact ⟨none, 0, 0, [], hcs, rfl, Nat.le_refl _, by unfold maxLen; omega, fun _ => rfl, fun _ h => absurd h (by simp), Kind.Holds.nil _ _ _⟩
  · have hmc : m = cap := by simpa using hmm
    subst hmc
    have each : ∀ i, i < len → ∃ x : α, Wf x ∧ ∀ j, j < K.size → w.cell? (ad.add (i * K.size + j)) = (K.cs x)[j]? := by
      intro i hil
      obtain ⟨cs', h1, h2⟩ := hi i (by omega)
      rw [hce] at h1
      obtain ⟨_, hlen, hcell⟩ := World.cells?_some h1
      obtain ⟨x, rfl, hw⟩ := hel _ _ _ h2 hlen
      refine ⟨x, hw, fun j hj => ?_⟩
      have := hcell j hj
      rwa [add_add] at this
    have hinh : Inhabited α := ⟨inh⟩
    obtain ⟨f, hfx⟩ := choose_lt each
    refine ⟨_, _, _, (List.range len).map f, hcs, by simp, hl, hm, fun e => (by cases e), fun x hx => ?_, fun j u hj => ?_⟩
    · obtain ⟨i, hi', rfl⟩ := List.mem_map.1 hx
      exact (hfx i (List.mem_range.1 hi')).1
    · have hjl : j < len * K.size := by
        have := (List.getElem?_eq_some_iff.1 hj).1
        rw [Kind.cells_len] at this
        simpa using this
      have hpos := K.hpos
      have hdm : K.size * (j / K.size) + j % K.size = j := Nat.div_add_mod j K.size
      have hmod : j % K.size < K.size := Nat.mod_lt _ hpos
      have hdiv : j / K.size < len := by rw [Nat.div_lt_iff_lt_mul hpos]; exact hjl
      have hje : j / K.size * K.size + j % K.size = j := by rw [Nat.mul_comm]; exact hdm
      have hk : j / K.size < ((List.range len).map f).length := by simpa using hdiv
      have hcell := (hfx _ hdiv).2 _ hmod
      rw [hje] at hcell
      have hat := K.cells_at _ _ hk _ hmod
      rw [hje, hj] at hat
      have hcu : w.cell? (ad.add j) = some u := by rw [hcell, hat]; simp
      have hsp : ad.spot = Option.none := by
        have z0 := (hfx 0 (Nat.lt_of_le_of_lt (Nat.zero_le _) hdiv)).2 0 hpos
        rw [List.getElem?_eq_getElem (by rw [K.len]; exact hpos)] at z0
        exact spot_none (a := ad) (by simpa [Addr.add] using z0)
      obtain ⟨b, o, sp⟩ := ad
      simp only at hsp
      subst hsp
      rw [add_plain] at hcu
      exact ⟨b, o, rfl, block_lt_of_cell hcu, hcu⟩

theorem cellsI : Try.prog.cellsOf 3 = 1 := by kernel_rfl
theorem cellsI64 : Try.prog.cellsOf 2 = 1 := by kernel_rfl
theorem cellsS : Try.prog.cellsOf 9 = 1 := by kernel_rfl
theorem cellsB : Try.prog.cellsOf 4 = 1 := by kernel_rfl
theorem cellsLA : Try.prog.cellsOf 35 = 1 := by kernel_rfl
theorem cellsAt : Try.prog.cellsOf 85 = 3 := by kernel_rfl
theorem laidOut : laidOutB Try.prog = true := by kernel_rfl

set_option maxRecDepth 100000 in
theorem open_at {H : Type} {enc : TypeId × Value → H} {w : World} {fuel : Nat} {cs : List Value} {x : DataW H × List MemPlace} (hx : DataW.trod enc Try.prog w 0 (fun _ => true) true fuel 85 cs = some x) (hlen : cs.length = 3) :
    ∃ a : P3.At, cs = kA.cs a ∧ (a.nm.size ≤ maxLen ∧ a.vl.size ≤ maxLen) := by
  obtain ⟨xs, k, hk, hxy, _, hxl, hg⟩ := DataW.trod_struct Try.underlying85 hx
  match cs, hlen with
  | [v0, v1, v2], _ =>
    have g0 := hg 0 _ rfl
    have g1 := hg 1 _ rfl
    have g2 := hg 2 _ rfl
    simp [cellsS, cellsB] at g0 g1 g2
    have x0 : xs[0]? = some (xs[0]'(by rw [hxl]; decide)) := List.getElem?_eq_getElem _
    have x1 : xs[1]? = some (xs[1]'(by rw [hxl]; decide)) := List.getElem?_eq_getElem _
    have x2 : xs[2]? = some (xs[2]'(by rw [hxl]; decide)) := List.getElem?_eq_getElem _
    rw [x0] at g0
    rw [x1] at g1
    rw [x2] at g2
    obtain ⟨s0, hs0, _, hz0⟩ := DataW.trod_string Try.underlying9 g0
    obtain ⟨s1, hs1, _, hz1⟩ := DataW.trod_string Try.underlying9 g1
    obtain ⟨s2, hs2, _⟩ := DataW.trod_bool Try.underlying4 g2
    injection hs0 with hs0 _
    injection hs1 with hs1 _
    injection hs2 with hs2 _
    subst hs0; subst hs1; subst hs2
    exact ⟨⟨s0, s1, s2⟩, rfl, hz0, hz1⟩
end Go.Proofs.Ythdgaoifbejpjaa.P5

/- A tree, opened out of an argument. No condition. -/
set_option linter.unusedVariables false
set_option linter.unusedSimpArgs false
namespace Go.Proofs.Ythdgaoifbejpjaa.P8
open Go.RowKit Go.ChangeShapes Go.WideShapes Go.Deep Kd P4 P5

/-- a slice, each of whose elements is opened at less fuel -/
theorem open_less {P : Program} {α : Type} (K : Kind P α) {H : Type} {enc : TypeId × Value → H} {w : World} {cs : List Value} {x : DataW H × List MemPlace} {fuel : Nat} (inh : α) (Wf : α → Prop)
    (hce : P.cellsOf K.e = K.size) (hel : ∀ f, f < fuel → ∀ cs x, DataW.trod enc P w 0 (fun _ => true) true f K.e cs = some x → cs.length = K.size → ∃ a, cs = K.cs a ∧ Wf a)
    (hf : DataW.trod enc P w 0 (fun _ => true) true fuel K.t cs = some x) :
    ∃ A n c l, cs = [.slice A n c] ∧ l.length = n ∧ n ≤ c ∧ c ≤ maxLen ∧ (A = none → c = 0) ∧ (∀ a ∈ l, Wf a) ∧ K.Holds w w.heap.size A l := by
  rcases DataW.trod_slice K.ht hf with ⟨rfl, _⟩ | ⟨ad, len, cap, elems, rest, n, hfu, rfl, rfl, _, hl, hm, hle, hi, _, _⟩
  · exact ⟨none, 0, 0, [], rfl, rfl, Nat.le_refl _, by unfold maxLen; omega, fun _ => rfl, fun _ h => absurd h (by simp), Kind.Holds.nil _ _ _⟩
  · have each : ∀ i, i < len → ∃ y : α, Wf y ∧ ∀ j, j < K.size → w.cell? (ad.add (i * K.size + j)) = (K.cs y)[j]? := by
      intro i hil
      have e := hi i hil
      rw [List.getElem?_eq_getElem (by omega), hce] at e
      obtain ⟨cs', h1, h2⟩ := Option.bind_eq_some_iff.1 e
      obtain ⟨_, hlen, hcell⟩ := World.cells?_some h1
      obtain ⟨y, rfl, hw⟩ := hel n (by omega) _ _ h2 hlen
      refine ⟨y, hw, fun j hj => ?_⟩
      have := hcell j hj
      rwa [add_add] at this
    have hinh : Inhabited α := ⟨inh⟩
    obtain ⟨f, hfx⟩ := choose_lt each
    refine ⟨_, _, _, (List.range len).map f, rfl, by simp, hl, hm, fun e => (by cases e), fun y hy => ?_, fun j u hj => ?_⟩
    · obtain ⟨i, hi', rfl⟩ := List.mem_map.1 hy
      exact (hfx i (List.mem_range.1 hi')).1
    · have hjl : j < len * K.size := by
        have := (List.getElem?_eq_some_iff.1 hj).1
        rw [Kind.cells_len] at this
        simpa using this
      have hpos := K.hpos
      have hdm : K.size * (j / K.size) + j % K.size = j := Nat.div_add_mod j K.size
      have hmod : j % K.size < K.size := Nat.mod_lt _ hpos
      have hdiv : j / K.size < len := by rw [Nat.div_lt_iff_lt_mul hpos]; exact hjl
      have hje : j / K.size * K.size + j % K.size = j := by rw [Nat.mul_comm]; exact hdm
      have hk : j / K.size < ((List.range len).map f).length := by simpa using hdiv
      have hcell := (hfx _ hdiv).2 _ hmod
      rw [hje] at hcell
      have hat := K.cells_at _ _ hk _ hmod
      rw [hje, hj] at hat
      have hcu : w.cell? (ad.add j) = some u := by rw [hcell, hat]; simp
      have hsp : ad.spot = Option.none := by
        have z0 := (hfx 0 (Nat.lt_of_le_of_lt (Nat.zero_le _) hdiv)).2 0 hpos
        rw [List.getElem?_eq_getElem (by rw [K.len]; exact hpos)] at z0
        exact spot_none (a := ad) (by simpa [Addr.add] using z0)
      obtain ⟨b, o, sp⟩ := ad
      simp only at hsp
      subst hsp
      rw [add_plain] at hcu
      exact ⟨b, o, rfl, block_lt_of_cell hcu, hcu⟩
theorem cellsT : Try.prog.cellsOf 37 = 5 := by kernel_rfl
theorem cellsLT : Try.prog.cellsOf 23 = 1 := by kernel_rfl
set_option maxRecDepth 100000 in
theorem open_tree_cells {H : Type} {enc : TypeId × Value → H} {w : World} : ∀ (fuel : Nat) (cs : List Value) (x : DataW H × List MemPlace), DataW.trod enc Try.prog w 0 (fun _ => true) true fuel 37 cs = some x → cs.length = 5 →
    ∃ a : TV, cs = kT.cs a ∧ (TOk w w.heap.size a ∧ TFit a) := by
  intro fuel
  induction fuel using Nat.strongRecOn with
  | ind fuel ih =>
    intro cs x hx hlen
    obtain ⟨xs, k, hk, hxy, _, hxl, hg⟩ := DataW.trod_struct Try.underlying37 hx
    match cs, hlen with
    | [v0, v1, v2, v3, v4], _ =>
      have g0 := hg 0 _ rfl
      have g1 := hg 1 _ rfl
      have g2 := hg 2 _ rfl
      have g3 := hg 3 _ rfl
      have g4 := hg 4 _ rfl
      simp [cellsS, cellsLA, cellsLT] at g0 g1 g2 g3 g4
      have x0 : xs[0]? = some (xs[0]'(by rw [hxl]; decide)) := List.getElem?_eq_getElem _
      have x1 : xs[1]? = some (xs[1]'(by rw [hxl]; decide)) := List.getElem?_eq_getElem _
      have x2 : xs[2]? = some (xs[2]'(by rw [hxl]; decide)) := List.getElem?_eq_getElem _
      have x3 : xs[3]? = some (xs[3]'(by rw [hxl]; decide)) := List.getElem?_eq_getElem _
      have x4 : xs[4]? = some (xs[4]'(by rw [hxl]; decide)) := List.getElem?_eq_getElem _
      rw [x0] at g0
      rw [x1] at g1
      rw [x2] at g2
      rw [x3] at g3
      rw [x4] at g4
      obtain ⟨s0, hs0, _, hz0⟩ := DataW.trod_string Try.underlying9 g0
      obtain ⟨s1, hs1, _, hz1⟩ := DataW.trod_string Try.underlying9 g1
      obtain ⟨s2, hs2, _, hz2⟩ := DataW.trod_string Try.underlying9 g2
      obtain ⟨A, n, c, l, hs3, b1, b2, b3, b4, _, b6⟩ := open_fuel kA (⟨⟨#[]⟩, ⟨#[]⟩, false⟩ : P3.At) (fun a => a.nm.size ≤ maxLen ∧ a.vl.size ≤ maxLen) cellsAt (fun _ _ _ h hl => open_at h hl) g3
      obtain ⟨A', n', c', l', hs4, d1, d2, d3, d4, d5, d6⟩ := open_less kT (.mk ⟨#[]⟩ ⟨#[]⟩ ⟨#[]⟩ ⟨none, 0, 0⟩ [] ⟨none, 0, 0⟩ []) (fun a => TOk w w.heap.size a ∧ TFit a) cellsT (fun f hf cs x h hl => ih f (by omega) cs x h hl) g4
      injection hs0 with hs0 _
      injection hs1 with hs1 _
      injection hs2 with hs2 _
      injection hs3 with hs3 _
      injection hs4 with hs4 _
      subst hs0; subst hs1; subst hs2; subst hs3; subst hs4
      exact ⟨.mk s0 s1 s2 ⟨A, n, c⟩ l ⟨A', n', c'⟩ l', rfl, ⟨b1, b2, b4, b6, d1, d2, d4, d6, fun k hk => (d5 k hk).1⟩, ⟨⟨hz0, hz1, hz2, b3, d3⟩, fun k hk => (d5 k hk).2⟩⟩
set_option maxRecDepth 100000 in
theorem open_tree {H : Type} {enc : TypeId × Value → H} {w : World} {v : Value} {d : DataW H} {p : List MemPlace} {base : Nat}
    (hv : Value.okWide Try.prog w .any base 37 v) (h : DataW.Trod enc Try.prog w 0 (fun _ => true) true 37 v d p) :
    ∃ a : TV, v = .agg #[.string a.tag, .string a.txt, .string a.key, .slice a.sa.A a.sa.n a.sa.c, .slice a.sk.A a.sk.n a.sk.c] ∧ TOk w w.heap.size a ∧ TFit a := by
  obtain ⟨cs, rfl, hs⟩ := okWide_struct Try.underlying37 hv
  obtain ⟨fuel, hf⟩ := h
  obtain ⟨a, hc, h1, h2⟩ := open_tree_cells fuel _ _ hf (by simpa [Value.cells, cellsT] using hs)
  refine ⟨a, ?_, h1, h2⟩
  have e : cs.toList = kT.cs a := by simpa [Value.cells] using hc
  rw [← Array.toArray_toList (xs := cs), e]
  rfl
end Go.Proofs.Ythdgaoifbejpjaa.P8

/- A slice of trees, opened out of an argument. No condition. -/
set_option linter.unusedVariables false
set_option linter.unusedSimpArgs false
namespace Go.Proofs.Ythdgaoifbejpjaa.P8
open Go.RowKit Go.ChangeShapes Go.WideShapes Go.Deep Kd P4 P5

set_option maxRecDepth 100000 in
theorem open_trees {H : Type} {enc : TypeId × Value → H} {w : World} {v : Value} {d : DataW H} {p : List MemPlace} {base : Nat}
    (hv : Value.okWide Try.prog w .any base 23 v) (h : DataW.Trod enc Try.prog w 0 (fun _ => true) true 23 v d p) :
    ∃ A n c l, v = .slice A n c ∧ l.length = n ∧ n ≤ c ∧ c ≤ maxLen ∧ (∀ a ∈ l, TOk w w.heap.size a ∧ TFit a) ∧ kT.Holds w w.heap.size A l :=
  kT.open_ (.mk ⟨#[]⟩ ⟨#[]⟩ ⟨#[]⟩ ⟨none, 0, 0⟩ [] ⟨none, 0, 0⟩ []) (fun a => TOk w w.heap.size a ∧ TFit a) cellsT (fun fuel cs x h hl => open_tree_cells fuel cs x h hl) hv h
end Go.Proofs.Ythdgaoifbejpjaa.P8

/- Which programs may be, as the document's answer reckons it, plain. No condition. -/
set_option linter.unusedVariables false
set_option linter.unusedSimpArgs false
namespace Go.Proofs.Ythdgaoifbejpjaa.P13
open Go.RowKit Kd P4 P11 P12

def tellsO (op : Int) : Bool := decide (op = 5 ∨ op = 6)
def makesO (op : Int) : Bool := decide (op = 1 ∨ op = 3)
def stepB (k : Nat) (o : List Int) (x : In) : List Int := if x.op = 1 then o ++ [(k : Int) + 1] else if x.op = 2 then o.dropLast else o
/-- where what is open begins, behind k instructions; the last one opened last -/
def opensK (l : List In) : Nat → List Int
  | 0 => []
  | k + 1 => match l[k]? with
    | some x => stepB k (opensK l k) x
    | none => opensK l k
def beginP (l : List In) (k : Nat) : Int × Nat := match (opensK l k).getLast? with
  | none => (0, 0)
  | some p => (p, (opensK l k).length)
def deltaO (op : Int) : Int := if op = 1 then 1 else if op = 2 then -1 else 0
def stepA (s : List In × Int) (x : In) : List In × Int := (if s.2 = 0 ∧ x.op ≠ 2 then s.1 ++ [x] else s.1, s.2 + deltaO x.op)
def aheadP (l : List In) (k : Nat) : List In := (((l.take k).drop (beginP l k).1.toNat).foldl stepA ([], 0)).1
def attrD (l : List In) (a : List UInt8) : Nat → Nat → Nat
  | 0, _ => 9
  | k + 1, n => match l[k]? with
    | none => 9
    | some y => if tellsO y.op then (if y.a.toList = a then 9 else attrD l a k (n + 1)) else if 8 ≤ n then 9 else if makesO y.op then 0 else 9
def keyB (x y : In) : Bool := makesO y.op && (y.b.toList == x.b.toList)
def wrongAt (l : List In) (k : Nat) (x : In) : Nat :=
  if mayI x = false then 7
  else if tellsO x.op then attrD l x.a.toList k 0
  else if x.op = 2 then (if (beginP l k).2 = 0 then 8 else 0)
  else if (aheadP l k).any (fun y => decide (y.op = 7)) then 11
  else if makesO x.op && !x.b.toList.isEmpty && (aheadP l k).any (keyB x) then 10
  else if x.op = 1 ∧ 8 ≤ (beginP l k).2 then 12
  else 0
def wrongP (l : List In) (k : Nat) : Nat := match l[k]? with
  | none => 0
  | some x => wrongAt l k x
/-- the first error of k instructions -/
def firstW (l : List In) : Nat → Nat
  | 0 => 0
  | k + 1 => if firstW l k = 0 then wrongP l k else firstW l k
def checkP (l : List In) : Nat :=
  if 120 < l.length then 13
  else if firstW l l.length = 0 then (if 0 < (beginP l l.length).2 then 8 else 0)
  else firstW l l.length
theorem opensK_step {l : List In} {k : Nat} (h : k < l.length) : opensK l (k + 1) = stepB k (opensK l k) l[k] := by
  rw [opensK, List.getElem?_eq_getElem h]
theorem opensK_len (l : List In) : ∀ k, (opensK l k).length ≤ k
  | 0 => by simp [opensK]
  | k + 1 => by
    have := opensK_len l k
    rw [opensK]
    split
    · unfold stepB
      split
      · simp; omega
      · split
        · simp; omega
        · omega
    · omega
theorem opensK_in (l : List In) : ∀ k, ∀ p ∈ opensK l k, 1 ≤ p ∧ p ≤ (k : Int)
  | 0 => by simp [opensK]
  | k + 1 => by
    have ih := opensK_in l k
    intro p hp
    rw [opensK] at hp
    have key : ∀ q ∈ opensK l k, 1 ≤ q ∧ q ≤ ((k + 1 : Nat) : Int) := fun q hq => by have := ih q hq; omega
    split at hp
    · unfold stepB at hp
      split at hp
      · rcases List.mem_append.1 hp with h | h
        · exact key p h
        · rw [List.mem_singleton] at h; omega
      · split at hp
        · exact key p (List.dropLast_subset _ hp)
        · exact key p hp
    · exact key p hp
theorem beginP_none {l : List In} {k : Nat} (h : (opensK l k).length = 0) : beginP l k = (0, 0) := by
  rw [beginP, List.eq_nil_of_length_eq_zero h]
  rfl
theorem beginP_some {l : List In} {k m : Nat} (hm : m < (opensK l k).length) (h : (opensK l k).length = m + 1) : beginP l k = ((opensK l k)[m], m + 1) := by
  have e1 : (opensK l k)[(opensK l k).length - 1]? = some ((opensK l k)[m]) := by
    rw [show (opensK l k).length - 1 = m by omega]
    exact List.getElem?_eq_getElem hm
  rw [beginP, List.getLast?_eq_getElem?, e1]
  simp only [h]
theorem beginP_snd (l : List In) (k : Nat) : (beginP l k).2 = (opensK l k).length := by
  rcases Nat.eq_zero_or_pos (opensK l k).length with h | h
  · rw [beginP_none h, h]
  · obtain ⟨m, hm⟩ : ∃ m, (opensK l k).length = m + 1 := ⟨(opensK l k).length - 1, by omega⟩
    rw [beginP_some (by omega) hm]
    simp only [hm]
theorem beginP_fst (l : List In) (k : Nat) : ∃ f : Nat, (beginP l k).1 = f ∧ f ≤ k := by
  rcases Nat.eq_zero_or_pos (opensK l k).length with h | h
  · rw [beginP_none h]; exact ⟨0, rfl, by omega⟩
  · obtain ⟨m, hm⟩ : ∃ m, (opensK l k).length = m + 1 := ⟨(opensK l k).length - 1, by omega⟩
    rw [beginP_some (by omega) hm]
    have := opensK_in l k _ (List.getElem_mem (h := (by omega : m < (opensK l k).length)))
    refine ⟨((opensK l k)[m]'(by omega)).toNat, ?_, ?_⟩
    · simp only; omega
    · omega
/-- what stands ahead, behind j of those from f on -/
def aheadK (l : List In) (f j : Nat) : List In × Int := ((l.drop f).take j).foldl stepA ([], 0)
theorem aheadK_zero (l : List In) (f : Nat) : aheadK l f 0 = ([], 0) := by simp [aheadK]
theorem aheadK_succ {l : List In} {f j : Nat} (h : f + j < l.length) : aheadK l f (j + 1) = stepA (aheadK l f j) l[f + j] := by
  unfold aheadK
  rw [List.take_add_one, List.getElem?_drop, List.getElem?_eq_getElem h, List.foldl_append]
  rfl
theorem aheadK_all {l : List In} {k f : Nat} (h : (beginP l k).1 = (f : Int)) : (aheadK l f (k - f)).1 = aheadP l k := by
  rw [aheadP, h, Int.toNat_natCast, List.drop_take]
  rfl
theorem stepA_len (s : List In × Int) (x : In) : (stepA s x).1.length ≤ s.1.length + 1 := by
  unfold stepA
  simp only
  split
  · simp
  · omega
theorem aheadK_len (l : List In) (f : Nat) : ∀ j, (aheadK l f j).1.length ≤ j ∧ -(j : Int) ≤ (aheadK l f j).2 ∧ (aheadK l f j).2 ≤ j
  | 0 => by simp [aheadK]
  | j + 1 => by
    obtain ⟨h1, h2, h3⟩ := aheadK_len l f j
    rcases Nat.lt_or_ge (f + j) l.length with h | h
    · rw [aheadK_succ h]
      have := stepA_len (aheadK l f j) l[f + j]
      refine ⟨by omega, ?_, ?_⟩ <;> (simp only [stepA, deltaO]; split <;> try split) <;> omega
    · have e : aheadK l f (j + 1) = aheadK l f j := by
        unfold aheadK
        rw [List.take_of_length_le (by simp; omega), List.take_of_length_le (by simp; omega)]
      rw [e]
      omega
theorem attrD_code (l : List In) (a : List UInt8) : ∀ k n, attrD l a k n ≤ 13
  | 0, _ => by simp [attrD]
  | k + 1, n => by
    rw [attrD]
    split
    · omega
    · split
      · split
        · omega
        · exact attrD_code l a k (n + 1)
      · split
        · omega
        · split <;> omega
theorem wrongP_code (l : List In) (k : Nat) : wrongP l k ≤ 13 := by
  unfold wrongP
  split
  · omega
  · unfold wrongAt
    have := attrD_code l
    repeat' split
    all_goals first | omega | exact this _ _ _
theorem firstW_code (l : List In) : ∀ k, firstW l k ≤ 13
  | 0 => by simp [firstW]
  | k + 1 => by
    rw [firstW]
    split
    · exact wrongP_code l k
    · exact firstW_code l k
theorem checkP_code (l : List In) : checkP l ≤ 13 := by
  unfold checkP
  have := firstW_code l l.length
  repeat' split
  all_goals omega
theorem firstW_stays {l : List In} {k : Nat} (h : firstW l k ≠ 0) : ∀ j, firstW l (k + j) = firstW l k
  | 0 => rfl
  | j + 1 => by
    rw [← Nat.add_assoc, firstW, if_neg (by rw [firstW_stays h j]; exact h), firstW_stays h j]
theorem firstW_at {l : List In} {k : Nat} (h : firstW l k = 0) (hw : wrongP l k ≠ 0) (hk : k < l.length) : firstW l l.length = wrongP l k := by
  have h1 : firstW l (k + 1) = wrongP l k := by rw [firstW, if_pos h]
  have h2 := firstW_stays (l := l) (k := k + 1) (by rw [h1]; exact hw) (l.length - (k + 1))
  rw [show k + 1 + (l.length - (k + 1)) = l.length by omega] at h2
  rw [h2, h1]
end Go.Proofs.Ythdgaoifbejpjaa.P13
