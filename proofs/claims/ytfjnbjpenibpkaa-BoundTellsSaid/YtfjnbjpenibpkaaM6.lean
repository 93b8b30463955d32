/- An argument that is a slice of some kind, opened; the last step of a row whose arguments are read alone. For any program. No condition. -/
import Derived.Deep.Slices
import Derived.ChangeSame
import Derived.Carry
import Derived.Test.YtfjnbjpenibpkaaM5
set_option linter.unusedVariables false
set_option linter.unusedSimpArgs false
set_option linter.unusedVariables false
set_option linter.unusedSimpArgs false
namespace Go.Proofs.Ytfjnbjpenibpkaa.Kd
open Go.RowKit Go.ChangeShapes Go.WideShapes Go.Deep

theorem spot_none {w : World} {a : Addr} {v : Value} (h : w.cell? a = some v) : a.spot = none := by
  unfold World.cell? at h
  split at h
  · split at h
    · cases h
    · rename_i hs; simpa using hs
  · cases h

theorem Kind.open_ {P : Program} {α : Type} (K : Kind P α) {H : Type} {enc : TypeId × Value → H} {w : World} {v : Value} {d : DataW H} {p : List MemPlace} {base : Nat} (inh : α) (Wf : α → Prop)
    (hce : P.cellsOf K.e = K.size) (hel : ∀ fuel cs x, DataW.trod enc P w 0 (fun _ => true) true fuel K.e cs = some x → cs.length = K.size → ∃ a, cs = K.cs a ∧ Wf a)
    (hv : Value.okWide P w .any base K.t v) (h : DataW.Trod enc P w 0 (fun _ => true) true K.t v d p) :
    ∃ A n c l, v = .slice A n c ∧ l.length = n ∧ n ≤ c ∧ c ≤ maxLen ∧ (∀ a ∈ l, Wf a) ∧ K.Holds w w.heap.size A l := by
  obtain ⟨a, len, cap, rfl⟩ := okWide_slice K.ht hv
  obtain ⟨fuel, hf⟩ := h
  rcases open_slice K.ht hf with ⟨hcs, _⟩ | ⟨ad, len', cap', m, n, D, Pl, hcs, hb, hl, hm, hmm, _, hi⟩
  · have e : Value.slice a len cap = .slice Option.none 0 0 := by simpa [Value.cells] using hcs
    injection e with e1 e2 e3
    subst e1; subst e2; subst e3
    exact ⟨_, _, _, [], rfl, rfl, by omega, by unfold maxLen; omega, fun _ h => absurd h (by simp), Kind.Holds.nil _ _ _⟩
  · have e : Value.slice a len cap = .slice (some ad) len' cap' := by simpa [Value.cells] using hcs
    injection e with e1 e2 e3
    subst e1; subst e2; subst e3
    have hmc : m = cap := by simpa using hmm
    subst hmc
    have each : ∀ i, i < len → ∃ x : α, Wf x ∧ ∀ j, j < K.size → w.cell? (ad.add (i * K.size + j)) = (K.cs x)[j]? := by
      intro i hil
      obtain ⟨cs', h1, h2⟩ := hi i (by omega)
      rw [hce] at h1
      obtain ⟨_, hlen, hcell⟩ := World.cells?_some h1
      obtain ⟨x, rfl, hw⟩ := hel _ _ _ h2 hlen
      refine ⟨x, hw, fun j hj => ?_⟩
      have := hcell j hj
      rwa [add_add] at this
    have hinh : Inhabited α := ⟨inh⟩
    obtain ⟨f, hfx⟩ := choose_lt each
    refine ⟨_, _, _, (List.range len).map f, rfl, by simp, hl, hm, fun x hx => ?_, fun j u hj => ?_⟩
    · obtain ⟨i, hi', rfl⟩ := List.mem_map.1 hx
      exact (hfx i (List.mem_range.1 hi')).1
    · have hjl : j < len * K.size := by
        have := (List.getElem?_eq_some_iff.1 hj).1
        rw [Kind.cells_len] at this
        simpa using this
      have hpos := K.hpos
      have hdm : K.size * (j / K.size) + j % K.size = j := Nat.div_add_mod j K.size
      have hmod : j % K.size < K.size := Nat.mod_lt _ hpos
      have hdiv : j / K.size < len := by rw [Nat.div_lt_iff_lt_mul hpos]; exact hjl
      have hje : j / K.size * K.size + j % K.size = j := by rw [Nat.mul_comm]; exact hdm
      have hk : j / K.size < ((List.range len).map f).length := by simpa using hdiv
      have hcell := (hfx _ hdiv).2 _ hmod
      rw [hje] at hcell
      have hat := K.cells_at _ _ hk _ hmod
      rw [hje, hj] at hat
      have hcu : w.cell? (ad.add j) = some u := by rw [hcell, hat]; simp
      have hsp : ad.spot = Option.none := by
        have z0 := (hfx 0 (Nat.lt_of_le_of_lt (Nat.zero_le _) hdiv)).2 0 hpos
        rw [List.getElem?_eq_getElem (by rw [K.len]; exact hpos)] at z0
        exact spot_none (a := ad) (by simpa [Addr.add] using z0)
      obtain ⟨b, o, sp⟩ := ad
      simp only at hsp
      subst hsp
      rw [add_plain] at hcu
      exact ⟨b, o, rfl, block_lt_of_cell hcu, hcu⟩

/-- the arguments read behind the call as before, no named variable, nothing asked of what comes again -/
theorem post_read {H : Type} {enc : TypeId × Value → H} {P : Program} {f : Func} {s : ChangeSpec} {W W' : World} {args : Array Value} {v : Value} {ds gs : List (DataW H)} {before : List MemPlace}
    (hW : DataW.Whole enc P f.params.toList s.vars false W args.toList ds gs before)
    (hres : DataW.TrodAll enc P W' W.heap.size (fun _ => false) false f.resultTypes.toList (v.resultList f.resultTypes.size) (s.fn H (ds ++ gs)).results [])
    (hargs : DataW.TrodAll enc P W' 0 (fun b => decide (b < W.heap.size)) true f.params.toList args.toList (s.fn H (ds ++ gs)).args before)
    (hvars : DataW.TrodVars enc P W' (fun b => decide (b < W.heap.size)) s.vars (s.fn H (ds ++ gs)).vars [])
    (hb : Below W.heap.size W W') : s.post enc P f false true false false W args v W' :=
  ⟨ds, gs, before, [], before, [], hW, hres, hargs, hvars, World.keptBut_mono (fun _ hp => ⟨hp, .inr (.inl hp)⟩) (hb.frame (· ∈ before)), fun h => by cases h⟩
end Go.Proofs.Ytfjnbjpenibpkaa.Kd
