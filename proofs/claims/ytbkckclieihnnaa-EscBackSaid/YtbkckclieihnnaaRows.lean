/-
  No cell of these rows narrows 'for every input' (looked for: loops, veiled, ifaces, maps, wideKeys, modest, calm, conditions, laid).
  DERIVED. THE GIVEN ROWS OF THIS SEAT. 4 by the template 'for every input the law returns true; each argument reads behind the call as it read before'; 0 by the template 'total and deterministic' (their statements: YtbkckclieihnnaaTotals.lean).
  GIVEN WITH THE SEED: the statements are not yours to turn. If you find one false, say at which input.
  Laid BY PROGRAM, IN A SANDBOX (cutbox-rows.mjs): the forced cells as the released guide's own fill.sh prints them over the translation af49c8298f9dcc0f… (all of the seat's roots in one cut). By AI agents, Wed Nov 11 2026. No macro, syntax, notation, axiom, sorry.
-/
import Derived.Test.YtbkckclieihnnaaChecked
import GoSem.Claim
import GoSem.ClaimJoined
import GoSem.ClaimMapViews
import Derived.JoinedTies
import Derived.KernelRfl
namespace Go.Proofs.Ytbkckclieihnnaa
/- THE CELL 'sum', in the pinned program and in every row, IS THE sha256 OF THE DUMP (.gsa) THAT YtbkckclieihnnaaProg.lean LOADS. Nothing in Lean hashes anything: it is a label: what it is worth is what the hold of that sum in a sandbox is worth. -/
noncomputable def Try.pinned : Pinned := { name := "ytbkckclieihnnaa", sum := "af49c8298f9dcc0f50f71c22326690f440ae0e622c0363bfdf54c7db67ce0f44", checked := Try.checked }
namespace Rows
def none {H : Type} : Left H := { results := [], args := [] }

/-- 'placketlaw01.NameTells': WHATEVER THE INPUT: true; the input reads as it did. -/
def nameTellsSpec : ChangeSpec := { name := "nameTells", fn := fun _ => fun
  | [d] => { results := [.lit (.bool true)], args := [d] }
  | _ => none }
def nameTellsRow : OpenClaim := { program := "ytbkckclieihnnaa", sum := "af49c8298f9dcc0f50f71c22326690f440ae0e622c0363bfdf54c7db67ce0f44", func := "placket/placketlaw01.NameTells", spec := "nameTells", apart := false }
def NameTellsSaid : Prop := nameTellsRow.holds Try.pinned (OpenSpec.ofChange nameTellsSpec)

/-- ITS FALSE NEIGHBOUR: 'it returns false'. Refute it at one input. -/
def nameTellsWrong : ChangeSpec := { name := "nameTells", fn := fun _ => fun
  | [d] => { results := [.lit (.bool false)], args := [d] }
  | _ => none }
def NameTellsWrongFalsely : Prop := nameTellsRow.holds Try.pinned (OpenSpec.ofChange nameTellsWrong)

/-- 'placketlaw01.NameGrows': WHATEVER THE INPUT: true; the input reads as it did. -/
def nameGrowsSpec : ChangeSpec := { name := "nameGrows", fn := fun _ => fun
  | [d] => { results := [.lit (.bool true)], args := [d] }
  | _ => none }
def nameGrowsRow : OpenClaim := { program := "ytbkckclieihnnaa", sum := "af49c8298f9dcc0f50f71c22326690f440ae0e622c0363bfdf54c7db67ce0f44", func := "placket/placketlaw01.NameGrows", spec := "nameGrows", apart := false }
def NameGrowsSaid : Prop := nameGrowsRow.holds Try.pinned (OpenSpec.ofChange nameGrowsSpec)

/-- ITS FALSE NEIGHBOUR: 'it returns false'. Refute it at one input. -/
def nameGrowsWrong : ChangeSpec := { name := "nameGrows", fn := fun _ => fun
  | [d] => { results := [.lit (.bool false)], args := [d] }
  | _ => none }
def NameGrowsWrongFalsely : Prop := nameGrowsRow.holds Try.pinned (OpenSpec.ofChange nameGrowsWrong)

/-- 'placketlaw02.EscTells': WHATEVER THE INPUT: true; the input reads as it did. -/
def escTellsSpec : ChangeSpec := { name := "escTells", fn := fun _ => fun
  | [d] => { results := [.lit (.bool true)], args := [d] }
  | _ => none }
def escTellsRow : OpenClaim := { program := "ytbkckclieihnnaa", sum := "af49c8298f9dcc0f50f71c22326690f440ae0e622c0363bfdf54c7db67ce0f44", func := "placket/placketlaw02.EscTells", spec := "escTells", inPlace := ["internal/abi.NoEscape"], apart := false }
def EscTellsSaid : Prop := escTellsRow.holds Try.pinned (OpenSpec.ofChange escTellsSpec)

/-- ITS FALSE NEIGHBOUR: 'it returns false'. Refute it at one input. -/
def escTellsWrong : ChangeSpec := { name := "escTells", fn := fun _ => fun
  | [d] => { results := [.lit (.bool false)], args := [d] }
  | _ => none }
def EscTellsWrongFalsely : Prop := escTellsRow.holds Try.pinned (OpenSpec.ofChange escTellsWrong)

/-- 'placketlaw02.EscBack': WHATEVER THE INPUT: true; the input reads as it did. -/
def escBackSpec : ChangeSpec := { name := "escBack", fn := fun _ => fun
  | [d1, d2] => { results := [.lit (.bool true)], args := [d1, d2] }
  | _ => none }
def escBackRow : OpenClaim := { program := "ytbkckclieihnnaa", sum := "af49c8298f9dcc0f50f71c22326690f440ae0e622c0363bfdf54c7db67ce0f44", func := "placket/placketlaw02.EscBack", spec := "escBack", inPlace := ["internal/abi.NoEscape"], apart := false }
def EscBackSaid : Prop := escBackRow.holds Try.pinned (OpenSpec.ofChange escBackSpec)

/-- ITS FALSE NEIGHBOUR: 'it returns false'. Refute it at one input. -/
def escBackWrong : ChangeSpec := { name := "escBack", fn := fun _ => fun
  | [d1, d2] => { results := [.lit (.bool false)], args := [d1, d2] }
  | _ => none }
def EscBackWrongFalsely : Prop := escBackRow.holds Try.pinned (OpenSpec.ofChange escBackWrong)

/- THE SECOND FORM. 'bulk': how many values and letters a reading holds, each counted each time it is reached (what is shared counts as often as it is met; a slice's spare places count too). A statement '..UptoSaid' is the law's where the arguments, and the package variables that the reading takes, are together of bulk at most 1048576: NARROWER than '..Said'. Prove '..Said' where nothing that the law and all that it calls make is longer than what came in: it says more and counts as full. Else prove '..UptoSaid'. A law counts once. -/
mutual
def uptoBulk {H : Type} : DataW H → Nat
  | .lit (.string bytes) => bytes.length + 1
  | .lit _ => 1
  | .nil => 1
  | .ptr d => uptoBulk d + 1
  | .slice elems spare => uptoBulkAll elems + uptoBulkAll spare + 1
  | .agg parts => uptoBulkAll parts + 1
  | .iface _ d => uptoBulk d + 1
  | .map entries => uptoBulkEntries entries + 1
  | .held _ => 1
def uptoBulkAll {H : Type} : List (DataW H) → Nat
  | [] => 0
  | d :: r => uptoBulk d + uptoBulkAll r
def uptoBulkEntries {H : Type} : List (Lit × DataW H) → Nat
  | [] => 0
  | x :: r => uptoBulkEntry x + uptoBulkEntries r
def uptoBulkEntry {H : Type} : Lit × DataW H → Nat
  | (.string bytes, d) => bytes.length + uptoBulk d + 1
  | (_, d) => uptoBulk d + 1
 end
def uptoSmall : (H : Type) → List (DataW H) → Bool := fun _ ds => decide (uptoBulkAll ds ≤ 1048576)
def OpenSpec.upto (s : _root_.Go.ChangeSpec) : _root_.Go.OpenSpec := { _root_.Go.OpenSpec.ofChange s with cond := some uptoSmall }

/-- 'placketlaw01.NameTells', WHERE WHAT IT READS IS OF BULK AT MOST 1048576: true; the input reads as it did. -/
def nameTellsUptoRow : OpenClaim := { program := "ytbkckclieihnnaa", sum := "af49c8298f9dcc0f50f71c22326690f440ae0e622c0363bfdf54c7db67ce0f44", func := "placket/placketlaw01.NameTells", spec := "nameTells", apart := false, narrowed := true }
def NameTellsUptoSaid : Prop := nameTellsUptoRow.holds Try.pinned (OpenSpec.upto nameTellsSpec)

/-- 'placketlaw01.NameGrows', WHERE WHAT IT READS IS OF BULK AT MOST 1048576: true; the input reads as it did. -/
def nameGrowsUptoRow : OpenClaim := { program := "ytbkckclieihnnaa", sum := "af49c8298f9dcc0f50f71c22326690f440ae0e622c0363bfdf54c7db67ce0f44", func := "placket/placketlaw01.NameGrows", spec := "nameGrows", apart := false, narrowed := true }
def NameGrowsUptoSaid : Prop := nameGrowsUptoRow.holds Try.pinned (OpenSpec.upto nameGrowsSpec)

/-- 'placketlaw02.EscTells', WHERE WHAT IT READS IS OF BULK AT MOST 1048576: true; the input reads as it did. -/
def escTellsUptoRow : OpenClaim := { program := "ytbkckclieihnnaa", sum := "af49c8298f9dcc0f50f71c22326690f440ae0e622c0363bfdf54c7db67ce0f44", func := "placket/placketlaw02.EscTells", spec := "escTells", inPlace := ["internal/abi.NoEscape"], apart := false, narrowed := true }
def EscTellsUptoSaid : Prop := escTellsUptoRow.holds Try.pinned (OpenSpec.upto escTellsSpec)

/-- 'placketlaw02.EscBack', WHERE WHAT IT READS IS OF BULK AT MOST 1048576: true; the input reads as it did. -/
def escBackUptoRow : OpenClaim := { program := "ytbkckclieihnnaa", sum := "af49c8298f9dcc0f50f71c22326690f440ae0e622c0363bfdf54c7db67ce0f44", func := "placket/placketlaw02.EscBack", spec := "escBack", inPlace := ["internal/abi.NoEscape"], apart := false, narrowed := true }
def EscBackUptoSaid : Prop := escBackUptoRow.holds Try.pinned (OpenSpec.upto escBackSpec)

end Rows
end Go.Proofs.Ytbkckclieihnnaa
