/- What placketref11.Put answers, of instructions that may be. No condition but those stated. -/
import Derived.Test.YtddfkeilifcidaaRcode12
set_option linter.unusedVariables false
set_option linter.unusedSimpArgs false
namespace Go.Proofs.Ytddfkeilifcidaa.P12
open Go.RowKit Kd P4 P11

theorem insH_len {i : In} (h : mayI i = true) : (insH i).length ≤ 123 := by
  obtain ⟨h1, h2, _⟩ := may_small h
  have ea := len_size i.a
  have eb := len_size i.b
  simp only [insH, List.length_cons, List.length_append]
  split <;> split <;> simp [textH] <;> omega
theorem putI_len : ∀ {l : List In}, (∀ i ∈ l, mayI i = true) → (putI l).length ≤ 123 * l.length
  | [], _ => by simp [putI]
  | i :: l, h => by
    have h1 := insH_len (h i (by simp))
    have h2 := putI_len (l := l) (fun k hk => h k (by simp [hk]))
    rw [putI_cons, List.length_append, List.length_cons]
    omega
theorem putI_snoc {l : List In} {k : Nat} (h : k < l.length) : putI (l.take (k + 1)) = putI (l.take k) ++ insH l[k] := by
  rw [List.take_add_one, List.getElem?_eq_getElem h]
  unfold putI
  rw [List.flatMap_append]
  simp
end Go.Proofs.Ytddfkeilifcidaa.P12
