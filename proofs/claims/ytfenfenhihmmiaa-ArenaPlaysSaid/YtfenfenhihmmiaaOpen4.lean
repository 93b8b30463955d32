/- The arguments of layer 4's laws: a slice of integers, a slice of deeds, opened. -/
import Derived.Test.YtfenfenhihmmiaaKinds4
import Derived.Test.YtfenfenhihmmiaaKindOpen
namespace Go.Proofs.Ytfenfenhihmmiaa.P4
open Go.RowKit Go.ChangeShapes Go.WideShapes Go.Deep Kd

theorem cellsI : Try.prog.cellsOf 3 = 1 := by kernel_rfl
theorem cellsD : Try.prog.cellsOf 32 = 3 := by kernel_rfl
theorem laidOut : laidOutB Try.prog = true := by kernel_rfl

theorem open_ints {H : Type} {enc : TypeId × Value → H} {w : World} {v : Value} {d : DataW H} {p : List MemPlace} {base : Nat}
    (hv : Value.okWide Try.prog w .any base 30 v) (h : DataW.Trod enc Try.prog w 0 (fun _ => true) true 30 v d p) :
    ∃ A n c l, v = .slice A n c ∧ l.length = n ∧ n ≤ c ∧ c ≤ maxLen ∧ kI.Holds w w.heap.size A l := by
  obtain ⟨A, n, c, l, h1, h2, h3, h4, _, h5⟩ := kI.open_ (base := base) (0 : Int) (fun _ => True) cellsI (fun fuel cs x hx _ => by
    obtain ⟨z, rfl, _⟩ := DataW.trod_int Try.underlying3 hx
    exact ⟨z, rfl, trivial⟩) hv h
  exact ⟨A, n, c, l, h1, h2, h3, h4, h5⟩
def WfD (d : Deed) : Prop := -9223372036854775808 ≤ d.what ∧ d.what ≤ 9223372036854775807
theorem open_deeds {H : Type} {enc : TypeId × Value → H} {w : World} {v : Value} {d : DataW H} {p : List MemPlace} {base : Nat}
    (hv : Value.okWide Try.prog w .any base 22 v) (h : DataW.Trod enc Try.prog w 0 (fun _ => true) true 22 v d p) :
    ∃ A n c l, v = .slice A n c ∧ l.length = n ∧ n ≤ c ∧ c ≤ maxLen ∧ (∀ a ∈ l, WfD a) ∧ kD.Holds w w.heap.size A l := by
  refine kD.open_ (base := base) (⟨0, 0, 0⟩ : Deed) WfD cellsD (fun fuel cs x hx hlen => ?_) hv h
  obtain ⟨xs, k, hk, hxy, _, hxl, hg⟩ := DataW.trod_struct Try.underlying32 hx
  match cs, hlen with
  | [v0, v1, v2], _ =>
    have g0 := hg 0 _ rfl
    have g1 := hg 1 _ rfl
    have g2 := hg 2 _ rfl
    simp [cellsI] at g0 g1 g2
    have x0 : xs[0]? = some (xs[0]'(by rw [hxl]; decide)) := List.getElem?_eq_getElem _
    have x1 : xs[1]? = some (xs[1]'(by rw [hxl]; decide)) := List.getElem?_eq_getElem _
    have x2 : xs[2]? = some (xs[2]'(by rw [hxl]; decide)) := List.getElem?_eq_getElem _
    rw [x0] at g0
    rw [x1] at g1
    rw [x2] at g2
    obtain ⟨s0, hs0, _, hz0⟩ := DataW.trod_int Try.underlying3 g0
    obtain ⟨s1, hs1, _⟩ := DataW.trod_int Try.underlying3 g1
    obtain ⟨s2, hs2, _⟩ := DataW.trod_int Try.underlying3 g2
    injection hs0 with hs0 _
    injection hs1 with hs1 _
    injection hs2 with hs2 _
    subst hs0; subst hs1; subst hs2
    refine ⟨⟨s0, s1, s2⟩, rfl, ?_⟩
    simp [Lit.wf] at hz0
    exact ⟨hz0.1, hz0.2⟩
end Go.Proofs.Ytfenfenhihmmiaa.P4
