/- An argument that is a list of attributes, opened; and the last step of a row whose arguments are read alone. -/
import Derived.Test.YtadodhlfahkplaaAttr3
import Derived.Deep.Slices
import Derived.ChangeSame
import Derived.Carry
namespace Go.Proofs.Ytadodhlfahkplaa.P3
open Go.RowKit Go.ChangeShapes Go.WideShapes Go.Deep

theorem cellsE : Try.prog.cellsOf 26 = 3 := by kernel_rfl
theorem cellsS : Try.prog.cellsOf 9 = 1 := by kernel_rfl
theorem cellsB : Try.prog.cellsOf 4 = 1 := by kernel_rfl
theorem laidOut : laidOutB Try.prog = true := by kernel_rfl

theorem spot_none {w : World} {a : Addr} {v : Value} (h : w.cell? a = some v) : a.spot = none := by
  unfold World.cell? at h
  split at h
  · split at h
    · cases h
    · rename_i hs; simpa using hs
  · cases h

theorem open_attrs {H : Type} {enc : TypeId × Value → H} {w : World} {v : Value} {d : DataW H} {p : List MemPlace} {base : Nat}
    (hv : Value.okWide Try.prog w .any base 22 v) (h : DataW.Trod enc Try.prog w 0 (fun _ => true) true 22 v d p) :
    ∃ A n c l, v = .slice A n c ∧ l.length = n ∧ n ≤ c ∧ c ≤ maxLen ∧ Wf l ∧ Holds w w.heap.size A l := by
  obtain ⟨a, len, cap, rfl⟩ := okWide_slice Try.underlying22 hv
  obtain ⟨fuel, hf⟩ := h
  rcases open_slice Try.underlying22 hf with ⟨hcs, _⟩ | ⟨ad, len', cap', m, n, D, Pl, hcs, hb, hl, hm, hmm, _, hi⟩
  · have e : Value.slice a len cap = .slice Option.none 0 0 := by simpa [Value.cells] using hcs
    injection e with e1 e2 e3
    subst e1; subst e2; subst e3
    exact ⟨_, _, _, [], rfl, rfl, by omega, by unfold maxLen; omega, fun _ h => absurd h (by simp), fun _ h => absurd h (by simp)⟩
  · have e : Value.slice a len cap = .slice (some ad) len' cap' := by simpa [Value.cells] using hcs
    injection e with e1 e2 e3
    subst e1; subst e2; subst e3
    have hmc : m = cap := by simpa using hmm
    subst hmc
    have each : ∀ i, i < len → ∃ x : At, w.cell? (ad.add (i * 3)) = some (.string x.nm) ∧ w.cell? (ad.add (i * 3 + 1)) = some (.string x.vl) ∧ w.cell? (ad.add (i * 3 + 2)) = some (.bool x.st) ∧ x.nm.size ≤ maxLen ∧ x.vl.size ≤ maxLen := by
      intro i hil
      obtain ⟨cs', h1, h2⟩ := hi i (by omega)
      rw [cellsE] at h1
      obtain ⟨_, hlen, hcell⟩ := World.cells?_some h1
      obtain ⟨xs, k, hk, hxy, _, hxl, hg⟩ := DataW.trod_struct Try.underlying26 h2
      match cs', hlen with
      | [v0, v1, v2], _ =>
        have e0 := hcell 0 (by simp)
        have e1 := hcell 1 (by simp)
        have e2 := hcell 2 (by simp)
        rw [add_add] at e0 e1 e2
        have g0 := hg 0 _ rfl
        have g1 := hg 1 _ rfl
        have g2 := hg 2 _ rfl
        simp [cellsS, cellsB] at g0 g1 g2 e0 e1 e2
        have x0 : xs[0]? = some (xs[0]'(by rw [hxl]; decide)) := List.getElem?_eq_getElem _
        have x1 : xs[1]? = some (xs[1]'(by rw [hxl]; decide)) := List.getElem?_eq_getElem _
        have x2 : xs[2]? = some (xs[2]'(by rw [hxl]; decide)) := List.getElem?_eq_getElem _
        rw [x0] at g0
        rw [x1] at g1
        rw [x2] at g2
        obtain ⟨s0, hs0, _, hz0⟩ := DataW.trod_string Try.underlying9 g0
        obtain ⟨s1, hs1, _, hz1⟩ := DataW.trod_string Try.underlying9 g1
        obtain ⟨s2, hs2, _⟩ := DataW.trod_bool Try.underlying4 g2
        injection hs0 with hs0 _
        injection hs1 with hs1 _
        injection hs2 with hs2 _
        subst hs0; subst hs1; subst hs2
        exact ⟨⟨s0, s1, s2⟩, e0, e1, e2, hz0, hz1⟩
    have inh : Inhabited At := ⟨At.none⟩
    obtain ⟨f, hfx⟩ := choose_lt each
    refine ⟨_, _, _, (List.range len).map f, rfl, by simp, hl, hm, fun x hx => ?_, fun k hk => ?_⟩
    · obtain ⟨i, hi', rfl⟩ := List.mem_map.1 hx
      exact ⟨(hfx i (List.mem_range.1 hi')).2.2.2.1, (hfx i (List.mem_range.1 hi')).2.2.2.2⟩
    · have hk' : k < len := by simpa using hk
      obtain ⟨z0, _⟩ := hfx 0 (by omega)
      have hsp : ad.spot = Option.none := spot_none (a := ad) (by simpa [Addr.add] using z0)
      obtain ⟨k0, k1, k2, _⟩ := hfx k hk'
      obtain ⟨b, o, sp⟩ := ad
      simp only at hsp
      subst hsp
      rw [add_plain] at k0 k1 k2
      refine ⟨b, o, rfl, block_lt_of_cell k0, ?_, ?_, ?_⟩
      · simpa using k0
      · simpa [Nat.add_assoc] using k1
      · simpa [Nat.add_assoc] using k2

/-- the arguments read behind the call as before, no named variable, nothing asked of what comes again -/
theorem post_read {H : Type} {enc : TypeId × Value → H} {P : Program} {f : Func} {s : ChangeSpec} {W W' : World} {args : Array Value} {v : Value} {ds gs : List (DataW H)} {before : List MemPlace}
    (hW : DataW.Whole enc P f.params.toList s.vars false W args.toList ds gs before)
    (hres : DataW.TrodAll enc P W' W.heap.size (fun _ => false) false f.resultTypes.toList (v.resultList f.resultTypes.size) (s.fn H (ds ++ gs)).results [])
    (hargs : DataW.TrodAll enc P W' 0 (fun b => decide (b < W.heap.size)) true f.params.toList args.toList (s.fn H (ds ++ gs)).args before)
    (hvars : DataW.TrodVars enc P W' (fun b => decide (b < W.heap.size)) s.vars (s.fn H (ds ++ gs)).vars [])
    (hb : Below W.heap.size W W') : s.post enc P f false true false false W args v W' :=
  ⟨ds, gs, before, [], before, [], hW, hres, hargs, hvars, World.keptBut_mono (fun _ hp => ⟨hp, .inr (.inl hp)⟩) (hb.frame (· ∈ before)), fun h => by cases h⟩
end Go.Proofs.Ytadodhlfahkplaa.P3
