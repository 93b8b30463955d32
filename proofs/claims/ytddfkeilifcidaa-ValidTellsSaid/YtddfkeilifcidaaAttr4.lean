/- What the reference's May and Same answer, for every list that isn't too long. -/
import Derived.Test.YtddfkeilifcidaaAttr3
set_option linter.unusedVariables false
set_option linter.unusedSimpArgs false
namespace Go.Proofs.Ytddfkeilifcidaa.P3
open Go.RowKit

theorem rname_at (s : ByteArray) (w : World) {r : Bool} (h : P1.nameB s.data.toList = r) (hs : s.size ≤ maxLen) : Calls Try.prog 30 #[.string s] w fun e w' => e = .returned (.bool r) ∧ w = w' := by
  subst h; exact P1.rname_any s w hs
theorem rtext_at (s : ByteArray) (w : World) {r : Bool} (h : P1.textB s.data.toList = r) (hs : s.size ≤ maxLen) : Calls Try.prog 32 #[.string s] w fun e w' => e = .returned (.bool r) ∧ w = w' := by
  subst h; exact P1.rtext_any s w hs

theorem hasA_of {l : List At} {s : ByteArray} {j k : Nat} (hj : j < l.length) (hjk : j < k) (he : (l[j].nm.toList == s.toList) = true) : hasA (l.take k) s = true :=
  hasA_iff.2 ⟨l[j], List.mem_take_iff_getElem.2 ⟨j, by omega, rfl⟩, by simpa using he⟩
theorem hasA_no {l : List At} {s : ByteArray} (h : findA l s = none) : hasA l s = false := by unfold hasA; rw [h]; rfl

end Go.Proofs.Ytddfkeilifcidaa.P3
