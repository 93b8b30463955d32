/- Layer 11's example, and the walk of InsTells, over the contracts of the program's calls. No condition but those stated. -/
import Derived.Test.YtddfkeilifcidaaIns11
import Derived.Deep.RegionHeld3
import Derived.Deep.RegionWith
namespace Go.Proofs.Ytddfkeilifcidaa.P11
open Go.RowKit Kd P4
set_option linter.unusedSimpArgs false
set_option linter.unusedVariables false

def makesB (op : Int) : Bool := op == 1 || op == 3 || op == 4
def tellsB (op : Int) : Bool := op == 5 || op == 6
def IMayC : Prop := ∀ (i : In) (w : World), i.a.size ≤ 100000 → i.b.size ≤ 100000 → Calls Try.prog 15 #[.agg #[.int .i64 i.op, .string i.a, .string i.b]] w fun e w' => e = .returned (.bool (mayI i)) ∧ Below w.heap.size w w'
def TellsC : Prop := ∀ (op : Int) (w : World), Calls Try.prog 16 #[.int .i64 op] w fun e w' => e = .returned (.bool (tellsB op)) ∧ Below w.heap.size w w'
theorem c0 : (⟨#[]⟩ : ByteArray).toList = [] := by rw [ByteArray.toList_eq]
theorem bl_call {a w w5 : World} (b5 : Below w.heap.size w w5) (h : Below a.heap.size a w) : Below a.heap.size a w5 := h.trans (b5.mono h.size)
theorem take_at {P : Program} {ops : Array Oper} {Q : Exit → Act → World → Prop} {md : Region.Mode} {S : World → Prop} {d i : Nat} {oi : Oper} {v : Value} {fuel : Nat} {listed : Array Bool} {a : Act} {w : World} (hi : ops[i]? = some oi) (hd : oi.dst = some d)
    (hs : Region.noSelect ops = true) (hf : Region.free md ops listed i = true) (hr : (Region.ready md ops listed).contains i = true)
    (hQ : ∀ c a w, Q (.panic c) (a.put (some d) v) w → Q (.panic c) a w) (hy : YieldsIf P ops S oi v a) (hS : S w)
    (h : wpAnyH P md ops Q S fuel (listed.setIfInBounds i true) (a.put (some d) v) w) : wpAnyH P md ops Q S (fuel + 1) listed a w :=
  wpAnyH_take hi hs hf hr (by rw [hd]; exact hQ) hy hS (by rw [hd]; exact h)
theorem bl_drewN {B : Nat} {a w : World} (h : Below B a w) (n : Nat) : Below B a (w.drewN n) := ⟨h.os, h.tape, h.output, h.size, h.block⟩
theorem bl_alloc {a w : World} (h : Below a.heap.size a w) (o : Obj) : Below a.heap.size a (w.alloc o) := h.alloc h.size o
theorem bl_drew {B : Nat} {a w : World} (h : Below B a w) : Below B a w.drew := ⟨h.os, h.tape, h.output, h.size, h.block⟩
end Go.Proofs.Ytddfkeilifcidaa.P11
