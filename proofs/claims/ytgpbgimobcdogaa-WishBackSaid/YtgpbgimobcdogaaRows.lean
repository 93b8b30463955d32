/-
  No cell of these rows narrows 'for every input' (looked for: loops, veiled, ifaces, maps, wideKeys, modest, calm, conditions, laid).
  DERIVED. THE GIVEN ROWS OF THIS SEAT. 2 by the template 'for every input the law returns true; each argument reads behind the call as it read before'; 0 by the template 'total and deterministic' (their statements: YtgpbgimobcdogaaTotals.lean).
  GIVEN WITH THE SEED: the statements are not yours to turn. If you find one false, say at which input.
  Laid BY PROGRAM, IN A SANDBOX (cutbox-rows.mjs): the forced cells as the released guide's own fill.sh prints them over the translation 5fc7198a16c24888… (all of the seat's roots in one cut). By AI agents, Wed Nov 11 2026. No macro, syntax, notation, axiom, sorry.
-/
import Derived.Test.YtgpbgimobcdogaaChecked
import GoSem.Claim
import GoSem.ClaimJoined
import GoSem.ClaimMapViews
import Derived.JoinedTies
import Derived.KernelRfl
namespace Go.Proofs.Ytgpbgimobcdogaa
/- THE CELL 'sum', in the pinned program and in every row, IS THE sha256 OF THE DUMP (.gsa) THAT YtgpbgimobcdogaaProg.lean LOADS. Nothing in Lean hashes anything: it is a label: what it is worth is what the hold of that sum in a sandbox is worth. -/
noncomputable def Try.pinned : Pinned := { name := "ytgpbgimobcdogaa", sum := "5fc7198a16c24888e25501c1dd91c1ecdae68d7d00f06242c192b09fd70ba72b", checked := Try.checked }
namespace Rows
def none {H : Type} : Left H := { results := [], args := [] }

/-- 'placketlaw14.WishTells': WHATEVER THE INPUT: true; the input reads as it did. -/
def wishTellsSpec : ChangeSpec := { name := "wishTells", fn := fun _ => fun
  | [d1, d2] => { results := [.lit (.bool true)], args := [d1, d2] }
  | _ => none }
def wishTellsRow : OpenClaim := { program := "ytgpbgimobcdogaa", sum := "5fc7198a16c24888e25501c1dd91c1ecdae68d7d00f06242c192b09fd70ba72b", func := "placket/placketlaw14.WishTells", spec := "wishTells", unfollowed := true, recurses := true, apart := false }
def WishTellsSaid : Prop := wishTellsRow.holds Try.pinned (OpenSpec.ofChange wishTellsSpec)

/-- ITS FALSE NEIGHBOUR: 'it returns false'. Refute it at one input. -/
def wishTellsWrong : ChangeSpec := { name := "wishTells", fn := fun _ => fun
  | [d1, d2] => { results := [.lit (.bool false)], args := [d1, d2] }
  | _ => none }
def WishTellsWrongFalsely : Prop := wishTellsRow.holds Try.pinned (OpenSpec.ofChange wishTellsWrong)

/-- 'placketlaw14.WishBack': WHATEVER THE INPUT: true; the input reads as it did. -/
def wishBackSpec : ChangeSpec := { name := "wishBack", fn := fun _ => fun
  | [d] => { results := [.lit (.bool true)], args := [d] }
  | _ => none }
def wishBackRow : OpenClaim := { program := "ytgpbgimobcdogaa", sum := "5fc7198a16c24888e25501c1dd91c1ecdae68d7d00f06242c192b09fd70ba72b", func := "placket/placketlaw14.WishBack", spec := "wishBack", unfollowed := true, recurses := true, apart := false }
def WishBackSaid : Prop := wishBackRow.holds Try.pinned (OpenSpec.ofChange wishBackSpec)

/-- ITS FALSE NEIGHBOUR: 'it returns false'. Refute it at one input. -/
def wishBackWrong : ChangeSpec := { name := "wishBack", fn := fun _ => fun
  | [d] => { results := [.lit (.bool false)], args := [d] }
  | _ => none }
def WishBackWrongFalsely : Prop := wishBackRow.holds Try.pinned (OpenSpec.ofChange wishBackWrong)

/- THE SECOND FORM. 'bulk': how many values and letters a reading holds, each counted each time it is reached (what is shared counts as often as it is met; a slice's spare places count too). A statement '..UptoSaid' is the law's where the arguments, and the package variables that the reading takes, are together of bulk at most 1048576: NARROWER than '..Said'. Prove '..Said' where nothing that the law and all that it calls make is longer than what came in: it says more and counts as full. Else prove '..UptoSaid'. A law counts once. -/
mutual
def uptoBulk {H : Type} : DataW H → Nat
  | .lit (.string bytes) => bytes.length + 1
  | .lit _ => 1
  | .nil => 1
  | .ptr d => uptoBulk d + 1
  | .slice elems spare => uptoBulkAll elems + uptoBulkAll spare + 1
  | .agg parts => uptoBulkAll parts + 1
  | .iface _ d => uptoBulk d + 1
  | .map entries => uptoBulkEntries entries + 1
  | .held _ => 1
def uptoBulkAll {H : Type} : List (DataW H) → Nat
  | [] => 0
  | d :: r => uptoBulk d + uptoBulkAll r
def uptoBulkEntries {H : Type} : List (Lit × DataW H) → Nat
  | [] => 0
  | x :: r => uptoBulkEntry x + uptoBulkEntries r
def uptoBulkEntry {H : Type} : Lit × DataW H → Nat
  | (.string bytes, d) => bytes.length + uptoBulk d + 1
  | (_, d) => uptoBulk d + 1
 end
def uptoSmall : (H : Type) → List (DataW H) → Bool := fun _ ds => decide (uptoBulkAll ds ≤ 1048576)
def OpenSpec.upto (s : _root_.Go.ChangeSpec) : _root_.Go.OpenSpec := { _root_.Go.OpenSpec.ofChange s with cond := some uptoSmall }

/-- 'placketlaw14.WishTells', WHERE WHAT IT READS IS OF BULK AT MOST 1048576: true; the input reads as it did. -/
def wishTellsUptoRow : OpenClaim := { program := "ytgpbgimobcdogaa", sum := "5fc7198a16c24888e25501c1dd91c1ecdae68d7d00f06242c192b09fd70ba72b", func := "placket/placketlaw14.WishTells", spec := "wishTells", unfollowed := true, recurses := true, apart := false, narrowed := true }
def WishTellsUptoSaid : Prop := wishTellsUptoRow.holds Try.pinned (OpenSpec.upto wishTellsSpec)

/-- 'placketlaw14.WishBack', WHERE WHAT IT READS IS OF BULK AT MOST 1048576: true; the input reads as it did. -/
def wishBackUptoRow : OpenClaim := { program := "ytgpbgimobcdogaa", sum := "5fc7198a16c24888e25501c1dd91c1ecdae68d7d00f06242c192b09fd70ba72b", func := "placket/placketlaw14.WishBack", spec := "wishBack", unfollowed := true, recurses := true, apart := false, narrowed := true }
def WishBackUptoSaid : Prop := wishBackUptoRow.holds Try.pinned (OpenSpec.upto wishBackSpec)

end Rows
end Go.Proofs.Ytgpbgimobcdogaa
