/- What attr.May answers, for every list that isn't too long. -/
import Derived.Test.YtddfkeilifcidaaAttr1
import Derived.Test.YtddfkeilifcidaaName
import Derived.Deep.RegionHeld3
set_option linter.unusedVariables false
set_option linter.unusedSimpArgs false
namespace Go.Proofs.Ytddfkeilifcidaa.P3
open Go.RowKit

theorem nmay_at (s : ByteArray) (w : World) {r : Bool} (h : P1.nameB s.data.toList = r) (hs : s.size ≤ maxLen) : Calls Try.prog 26 #[.string s] w fun e w' => e = .returned (.bool r) ∧ w = w' := by
  subst h; exact P1.may_any s w hs
theorem ntext_at (s : ByteArray) (w : World) {r : Bool} (h : P1.textB s.data.toList = r) (hs : s.size ≤ maxLen) : Calls Try.prog 28 #[.string s] w fun e w' => e = .returned (.bool r) ∧ w = w' := by
  subst h; exact P1.text_any s w hs
theorem quiet_left {P : Program} {f : FuncId} {args : Array Value} {w : World} {n : Nat} {v : Value}
    (h : Calls P f args (w.drewN n) fun e w' => e = .returned v ∧ w.drewN n = w') : Calls P f args (w.drewN n) fun e w' => e = .returned v ∧ ∃ m, w' = w.drewN m :=
  h.mono fun _ _ ⟨he, hm⟩ => ⟨he, n, hm.symm⟩

theorem may_below {a w w' : World} {B : Nat} {o : Obj} (h : Below B a w) (hB : B ≤ w.heap.size) (n : Nat) (h2 : Below ((w.alloc o).drewN n).heap.size ((w.alloc o).drewN n) w') : Below B a w' :=
  (Below_drewN (h.alloc hB o) n).trans (h2.mono (by show B ≤ (w.alloc o).heap.size; simp; omega))
/-- each text is as long as a text may be -/
def Wf (l : List At) : Prop := ∀ a ∈ l, a.nm.size ≤ maxLen ∧ a.vl.size ≤ maxLen
theorem Wf.at_ {l : List At} (h : Wf l) {k : Nat} (hk : k < l.length) : l[k].nm.size ≤ maxLen ∧ l[k].vl.size ≤ maxLen := h _ (List.getElem_mem hk)

end Go.Proofs.Ytddfkeilifcidaa.P3
