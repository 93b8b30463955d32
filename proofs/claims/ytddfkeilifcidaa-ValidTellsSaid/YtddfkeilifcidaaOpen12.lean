/- A slice of instructions, and a slice of bytes, opened out of arguments. No condition. -/
import Derived.Test.YtddfkeilifcidaaOpen11
import Derived.Test.YtddfkeilifcidaaRcode12
set_option linter.unusedVariables false
set_option linter.unusedSimpArgs false
namespace Go.Proofs.Ytddfkeilifcidaa.P12
open Go.RowKit Go.ChangeShapes Go.WideShapes Go.Deep Kd P4 P11

theorem cellsU8 : Try.prog.cellsOf 5 = 1 := by kernel_rfl
set_option maxRecDepth 100000 in
theorem open_inss {H : Type} {enc : TypeId × Value → H} {w : World} {v : Value} {d : DataW H} {p : List MemPlace} {base : Nat}
    (hv : Value.okWide Try.prog w .any base 22 v) (h : DataW.Trod enc Try.prog w 0 (fun _ => true) true 22 v d p) :
    ∃ A n c l, v = .slice A n c ∧ l.length = n ∧ n ≤ c ∧ c ≤ maxLen ∧ (∀ a ∈ l, a.a.size ≤ maxLen ∧ a.b.size ≤ maxLen) ∧ kX.Holds w w.heap.size A l :=
  kX.open_ (base := base) (⟨0, ⟨#[]⟩, ⟨#[]⟩⟩ : In) (fun a => a.a.size ≤ maxLen ∧ a.b.size ≤ maxLen) cellsX (fun fuel cs x h hl => open_ins_cells fuel cs x h hl) hv h
set_option maxRecDepth 100000 in
/-- a nil slice that is handed in has no room -/
theorem nil_room {H : Type} {enc : TypeId × Value → H} {w : World} {t e : TypeId} (ht : Try.prog.underlying t = some (.slice e)) {n c : Nat} {d : DataW H} {p : List MemPlace}
    (h : DataW.Trod enc Try.prog w 0 (fun _ => true) true t (.slice none n c) d p) : c = 0 := by
  obtain ⟨fuel, hf⟩ := h
  rcases DataW.trod_slice ht hf with ⟨hcs, _⟩ | ⟨ad, len, cap, elems, rest, m, hfu, hcs, _⟩
  · have e : n = 0 ∧ c = 0 := by simpa [Value.cells] using hcs
    exact e.2
  · exact absurd hcs (by simp [Value.cells])
end Go.Proofs.Ytddfkeilifcidaa.P12
