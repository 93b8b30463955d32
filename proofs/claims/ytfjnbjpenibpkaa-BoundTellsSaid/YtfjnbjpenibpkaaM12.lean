/- What find tells of an arena's slots (of *placket/api.Node): the place of an identity, and whether it is there. -/
import Derived.Deep.RegionLaw
import Derived.Lib.SliceRun
import Derived.Deep.RegionHeld3
import Derived.Test.YtfjnbjpenibpkaaM8
set_option linter.unusedVariables false
set_option linter.unusedSimpArgs false
set_option linter.unusedVariables false
set_option linter.unusedSimpArgs false
namespace Go.Proofs.Ytfjnbjpenibpkaa.P4
open Go.RowKit Kd

def SearchP (w : World) (l : List (Sl Nat)) (t : Int) (e : Ending) (w' : World) : Prop :=
  e = .returned (.tuple #[.int .i64 (posA l t), .bool (hasA l t)]) ∧ Below w.heap.size w w'

section
variable {w w' : World} {B p R : Nat} {n : Int} {v : Value} {l : List (Sl Nat)}
end

end Go.Proofs.Ytfjnbjpenibpkaa.P4

/- slices.Delete of one slot, slices.Clone of slots (of *placket/api.Node). -/
set_option linter.unusedVariables false
set_option linter.unusedSimpArgs false
namespace Go.Proofs.Ytfjnbjpenibpkaa.P4
open Go.RowKit Kd

/-- the block behind a delete: what stood ahead, what stood behind -/
theorem del_row {cur c1 c2 : Array Value} {xs news zs : List Value} {a m s : Nat} (h : cur.toList.take ((a + 1 + m) * s) = xs) (hs : (a + 1 + m) * s ≤ cur.size) (hn : news = xs.drop ((a + 1) * s)) (hz : zs.length = s)
    (e1 : c1.size = cur.size) (h1 : ∀ k, k < cur.size → c1[k]? = if a * s ≤ k ∧ k < a * s + news.length then news[k - a * s]? else cur[k]?)
    (e2 : c2.size = c1.size) (h2 : ∀ k, k < c1.size → c2[k]? = if (a + m) * s ≤ k ∧ k < (a + m) * s + zs.length then zs[k - (a + m) * s]? else c1[k]?) :
    c2.toList.take ((a + m) * s) = xs.take (a * s) ++ news := by
  have d1 : (a + 1 + m) * s = a * s + s + m * s := by rw [Nat.add_mul, Nat.add_mul, Nat.one_mul]
  have d2 : (a + m) * s = a * s + m * s := Nat.add_mul _ _ _
  have d3 : (a + 1) * s = a * s + s := by rw [Nat.add_mul, Nat.one_mul]
  have hxl : xs.length = a * s + s + m * s := by rw [← h, List.length_take, Array.length_toList]; omega
  have hnl : news.length = m * s := by rw [hn, List.length_drop]; omega
  have hx : ∀ k, k < xs.length → xs[k]? = cur[k]? := by
    intro k hk
    rw [← h, List.getElem?_take, if_pos (by omega), Array.getElem?_toList]
  apply List.ext_getElem?
  intro k
  rw [List.getElem?_take]
  by_cases hk : k < (a + m) * s
  · rw [if_pos hk, Array.getElem?_toList, h2 k (by omega), if_neg (by omega), h1 k (by omega)]
    by_cases hka : k < a * s
    · rw [if_neg (by omega), List.getElem?_append_left (by rw [List.length_take]; omega), List.getElem?_take, if_pos hka, hx k (by omega)]
    · have hta : (xs.take (a * s)).length = a * s := by rw [List.length_take]; omega
      rw [if_pos (by omega), List.getElem?_append_right (by omega), hta]
  · rw [if_neg hk, List.getElem?_eq_none]
    rw [List.length_append, List.length_take]
    omega

end Go.Proofs.Ytfjnbjpenibpkaa.P4

/- What an arena's calls answer (of *placket/api.Node), and what they leave. -/
set_option linter.unusedVariables false
set_option linter.unusedSimpArgs false
namespace Go.Proofs.Ytfjnbjpenibpkaa.P4
open Go.RowKit Kd

/-! ### New -/
/-! ### Live, Next, Room -/
section
variable {B p R : Nat} {n : Int} {v : Value} {l : List (Sl Nat)}
/-! ### Put -/
end
end Go.Proofs.Ytfjnbjpenibpkaa.P4

/- What an arena's Get, Set and Drop answer (of *placket/api.Node), and what they leave. -/
set_option linter.unusedVariables false
set_option linter.unusedSimpArgs false
namespace Go.Proofs.Ytfjnbjpenibpkaa.P4
open Go.RowKit Kd
variable {B p R : Nat} {n : Int} {v : Value} {l : List (Sl Nat)}

/-! ### Get -/
/-! ### Set -/
/-! ### Drop -/
end Go.Proofs.Ytfjnbjpenibpkaa.P4

/- An arena's Clone: another one, of the same slots, whose memory is all new. -/
set_option linter.unusedVariables false
set_option linter.unusedSimpArgs false
namespace Go.Proofs.Ytfjnbjpenibpkaa.P4
open Go.RowKit Kd
variable {B p R : Nat} {n : Int} {v : Value} {l : List (Sl Nat)}

end Go.Proofs.Ytfjnbjpenibpkaa.P4
