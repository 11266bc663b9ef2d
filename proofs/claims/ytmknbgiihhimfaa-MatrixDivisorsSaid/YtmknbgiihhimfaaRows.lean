/-
  No cell of these rows narrows 'for every input' (looked for: loops, veiled, ifaces, maps, wideKeys, modest, calm, conditions, laid).
  DERIVED. THE GIVEN ROWS OF THIS SEAT. 7 by the template 'for every input the law returns true; each argument reads behind the call as it read before'; 0 by the template 'total and deterministic' (their statements: YtmknbgiihhimfaaTotals.lean).
  GIVEN WITH THE SEED: the statements are not yours to turn. If you find one false, say at which input.
  Laid BY PROGRAM, IN A SANDBOX (cutbox-rows.mjs): the forced cells as the released guide's own fill.sh prints them over the translation ffbd865a44cfe8d6… (all of the seat's roots in one cut). By AI agents, Wed Nov 11 2026. No macro, syntax, notation, axiom, sorry.
-/
import Derived.Test.YtmknbgiihhimfaaChecked
import GoSem.Claim
import GoSem.ClaimJoined
import GoSem.ClaimMapViews
import Derived.JoinedTies
import Derived.KernelRfl
namespace Go.Proofs.Ytmknbgiihhimfaa
/- THE CELL 'sum', in the pinned program and in every row, IS THE sha256 OF THE DUMP (.gsa) THAT YtmknbgiihhimfaaProg.lean LOADS. Nothing in Lean hashes anything: it is a label: what it is worth is what the hold of that sum in a sandbox is worth. -/
noncomputable def Try.pinned : Pinned := { name := "ytmknbgiihhimfaa", sum := "ffbd865a44cfe8d6722f7b90c2006d2fff4def9588a54db22053b73a8617b7d2", checked := Try.checked }
namespace Rows
def none {H : Type} : Left H := { results := [], args := [] }

/-- 'schismalaw05.MatrixMatchesReference': WHATEVER THE INPUT: true; the input reads as it did. -/
def matrixMatchesReferenceSpec : ChangeSpec := { name := "matrixMatchesReference", fn := fun _ => fun
  | [d] => { results := [.lit (.bool true)], args := [d] }
  | _ => none }
def matrixMatchesReferenceRow : OpenClaim := { program := "ytmknbgiihhimfaa", sum := "ffbd865a44cfe8d6722f7b90c2006d2fff4def9588a54db22053b73a8617b7d2", func := "schisma/schismalaw05.MatrixMatchesReference", spec := "matrixMatchesReference", unfollowed := true, recurses := true, apart := false }
def MatrixMatchesReferenceSaid : Prop := matrixMatchesReferenceRow.holds Try.pinned (OpenSpec.ofChange matrixMatchesReferenceSpec)

/-- ITS FALSE NEIGHBOUR: 'it returns false'. Refute it at one input. -/
def matrixMatchesReferenceWrong : ChangeSpec := { name := "matrixMatchesReference", fn := fun _ => fun
  | [d] => { results := [.lit (.bool false)], args := [d] }
  | _ => none }
def MatrixMatchesReferenceWrongFalsely : Prop := matrixMatchesReferenceRow.holds Try.pinned (OpenSpec.ofChange matrixMatchesReferenceWrong)

/-- 'schismalaw05.MatrixNormal': WHATEVER THE INPUT: true; the input reads as it did. -/
def matrixNormalSpec : ChangeSpec := { name := "matrixNormal", fn := fun _ => fun
  | [d] => { results := [.lit (.bool true)], args := [d] }
  | _ => none }
def matrixNormalRow : OpenClaim := { program := "ytmknbgiihhimfaa", sum := "ffbd865a44cfe8d6722f7b90c2006d2fff4def9588a54db22053b73a8617b7d2", func := "schisma/schismalaw05.MatrixNormal", spec := "matrixNormal", unfollowed := true, recurses := true, apart := false }
def MatrixNormalSaid : Prop := matrixNormalRow.holds Try.pinned (OpenSpec.ofChange matrixNormalSpec)

/-- ITS FALSE NEIGHBOUR: 'it returns false'. Refute it at one input. -/
def matrixNormalWrong : ChangeSpec := { name := "matrixNormal", fn := fun _ => fun
  | [d] => { results := [.lit (.bool false)], args := [d] }
  | _ => none }
def MatrixNormalWrongFalsely : Prop := matrixNormalRow.holds Try.pinned (OpenSpec.ofChange matrixNormalWrong)

/-- 'schismalaw05.MatrixSame': WHATEVER THE INPUT: true; the input reads as it did. -/
def matrixSameSpec : ChangeSpec := { name := "matrixSame", fn := fun _ => fun
  | [d1, d2, d3, d4] => { results := [.lit (.bool true)], args := [d1, d2, d3, d4] }
  | _ => none }
def matrixSameRow : OpenClaim := { program := "ytmknbgiihhimfaa", sum := "ffbd865a44cfe8d6722f7b90c2006d2fff4def9588a54db22053b73a8617b7d2", func := "schisma/schismalaw05.MatrixSame", spec := "matrixSame", unfollowed := true, recurses := true, apart := false }
def MatrixSameSaid : Prop := matrixSameRow.holds Try.pinned (OpenSpec.ofChange matrixSameSpec)

/-- ITS FALSE NEIGHBOUR: 'it returns false'. Refute it at one input. -/
def matrixSameWrong : ChangeSpec := { name := "matrixSame", fn := fun _ => fun
  | [d1, d2, d3, d4] => { results := [.lit (.bool false)], args := [d1, d2, d3, d4] }
  | _ => none }
def MatrixSameWrongFalsely : Prop := matrixSameRow.holds Try.pinned (OpenSpec.ofChange matrixSameWrong)

/-- 'schismalaw05.MatrixRank': WHATEVER THE INPUT: true; the input reads as it did. -/
def matrixRankSpec : ChangeSpec := { name := "matrixRank", fn := fun _ => fun
  | [d] => { results := [.lit (.bool true)], args := [d] }
  | _ => none }
def matrixRankRow : OpenClaim := { program := "ytmknbgiihhimfaa", sum := "ffbd865a44cfe8d6722f7b90c2006d2fff4def9588a54db22053b73a8617b7d2", func := "schisma/schismalaw05.MatrixRank", spec := "matrixRank", unfollowed := true, recurses := true, apart := false }
def MatrixRankSaid : Prop := matrixRankRow.holds Try.pinned (OpenSpec.ofChange matrixRankSpec)

/-- ITS FALSE NEIGHBOUR: 'it returns false'. Refute it at one input. -/
def matrixRankWrong : ChangeSpec := { name := "matrixRank", fn := fun _ => fun
  | [d] => { results := [.lit (.bool false)], args := [d] }
  | _ => none }
def MatrixRankWrongFalsely : Prop := matrixRankRow.holds Try.pinned (OpenSpec.ofChange matrixRankWrong)

/-- 'schismalaw05.MatrixKernel': WHATEVER THE INPUT: true; the input reads as it did. -/
def matrixKernelSpec : ChangeSpec := { name := "matrixKernel", fn := fun _ => fun
  | [d1, d2] => { results := [.lit (.bool true)], args := [d1, d2] }
  | _ => none }
def matrixKernelRow : OpenClaim := { program := "ytmknbgiihhimfaa", sum := "ffbd865a44cfe8d6722f7b90c2006d2fff4def9588a54db22053b73a8617b7d2", func := "schisma/schismalaw05.MatrixKernel", spec := "matrixKernel", unfollowed := true, recurses := true, apart := false }
def MatrixKernelSaid : Prop := matrixKernelRow.holds Try.pinned (OpenSpec.ofChange matrixKernelSpec)

/-- ITS FALSE NEIGHBOUR: 'it returns false'. Refute it at one input. -/
def matrixKernelWrong : ChangeSpec := { name := "matrixKernel", fn := fun _ => fun
  | [d1, d2] => { results := [.lit (.bool false)], args := [d1, d2] }
  | _ => none }
def MatrixKernelWrongFalsely : Prop := matrixKernelRow.holds Try.pinned (OpenSpec.ofChange matrixKernelWrong)

/-- 'schismalaw05.MatrixDivisors': WHATEVER THE INPUT: true; the input reads as it did. -/
def matrixDivisorsSpec : ChangeSpec := { name := "matrixDivisors", fn := fun _ => fun
  | [d] => { results := [.lit (.bool true)], args := [d] }
  | _ => none }
def matrixDivisorsRow : OpenClaim := { program := "ytmknbgiihhimfaa", sum := "ffbd865a44cfe8d6722f7b90c2006d2fff4def9588a54db22053b73a8617b7d2", func := "schisma/schismalaw05.MatrixDivisors", spec := "matrixDivisors", unfollowed := true, recurses := true, apart := false }
def MatrixDivisorsSaid : Prop := matrixDivisorsRow.holds Try.pinned (OpenSpec.ofChange matrixDivisorsSpec)

/-- ITS FALSE NEIGHBOUR: 'it returns false'. Refute it at one input. -/
def matrixDivisorsWrong : ChangeSpec := { name := "matrixDivisors", fn := fun _ => fun
  | [d] => { results := [.lit (.bool false)], args := [d] }
  | _ => none }
def MatrixDivisorsWrongFalsely : Prop := matrixDivisorsRow.holds Try.pinned (OpenSpec.ofChange matrixDivisorsWrong)

/-- 'schismalaw05.MatrixDouble': WHATEVER THE INPUT: true; the input reads as it did. -/
def matrixDoubleSpec : ChangeSpec := { name := "matrixDouble", fn := fun _ => fun
  | [d] => { results := [.lit (.bool true)], args := [d] }
  | _ => none }
def matrixDoubleRow : OpenClaim := { program := "ytmknbgiihhimfaa", sum := "ffbd865a44cfe8d6722f7b90c2006d2fff4def9588a54db22053b73a8617b7d2", func := "schisma/schismalaw05.MatrixDouble", spec := "matrixDouble", unfollowed := true, recurses := true, apart := false }
def MatrixDoubleSaid : Prop := matrixDoubleRow.holds Try.pinned (OpenSpec.ofChange matrixDoubleSpec)

/-- ITS FALSE NEIGHBOUR: 'it returns false'. Refute it at one input. -/
def matrixDoubleWrong : ChangeSpec := { name := "matrixDouble", fn := fun _ => fun
  | [d] => { results := [.lit (.bool false)], args := [d] }
  | _ => none }
def MatrixDoubleWrongFalsely : Prop := matrixDoubleRow.holds Try.pinned (OpenSpec.ofChange matrixDoubleWrong)

/- THE SECOND FORM. 'bulk': how many values and letters a reading holds, each counted each time it is reached (what is shared counts as often as it is met; a slice's spare places count too). A statement '..UptoSaid' is the law's where the arguments, and the package variables that the reading takes, are together of bulk at most 1048576: NARROWER than '..Said'. Prove '..Said' where nothing that the law and all that it calls make is longer than what came in: it says more and counts as full. Else prove '..UptoSaid'. A law counts once. -/
mutual
def uptoBulk {H : Type} : DataW H → Nat
  | .lit (.string bytes) => bytes.length + 1
  | .lit _ => 1
  | .nil => 1
  | .ptr d => uptoBulk d + 1
  | .slice elems spare => uptoBulkAll elems + uptoBulkAll spare + 1
  | .agg parts => uptoBulkAll parts + 1
  | .iface _ d => uptoBulk d + 1
  | .map entries => uptoBulkEntries entries + 1
  | .held _ => 1
def uptoBulkAll {H : Type} : List (DataW H) → Nat
  | [] => 0
  | d :: r => uptoBulk d + uptoBulkAll r
def uptoBulkEntries {H : Type} : List (Lit × DataW H) → Nat
  | [] => 0
  | x :: r => uptoBulkEntry x + uptoBulkEntries r
def uptoBulkEntry {H : Type} : Lit × DataW H → Nat
  | (.string bytes, d) => bytes.length + uptoBulk d + 1
  | (_, d) => uptoBulk d + 1
 end
def uptoSmall : (H : Type) → List (DataW H) → Bool := fun _ ds => decide (uptoBulkAll ds ≤ 1048576)
def OpenSpec.upto (s : _root_.Go.ChangeSpec) : _root_.Go.OpenSpec := { _root_.Go.OpenSpec.ofChange s with cond := some uptoSmall }

/-- 'schismalaw05.MatrixMatchesReference', WHERE WHAT IT READS IS OF BULK AT MOST 1048576: true; the input reads as it did. -/
def matrixMatchesReferenceUptoRow : OpenClaim := { program := "ytmknbgiihhimfaa", sum := "ffbd865a44cfe8d6722f7b90c2006d2fff4def9588a54db22053b73a8617b7d2", func := "schisma/schismalaw05.MatrixMatchesReference", spec := "matrixMatchesReference", unfollowed := true, recurses := true, apart := false, narrowed := true }
def MatrixMatchesReferenceUptoSaid : Prop := matrixMatchesReferenceUptoRow.holds Try.pinned (OpenSpec.upto matrixMatchesReferenceSpec)

/-- 'schismalaw05.MatrixNormal', WHERE WHAT IT READS IS OF BULK AT MOST 1048576: true; the input reads as it did. -/
def matrixNormalUptoRow : OpenClaim := { program := "ytmknbgiihhimfaa", sum := "ffbd865a44cfe8d6722f7b90c2006d2fff4def9588a54db22053b73a8617b7d2", func := "schisma/schismalaw05.MatrixNormal", spec := "matrixNormal", unfollowed := true, recurses := true, apart := false, narrowed := true }
def MatrixNormalUptoSaid : Prop := matrixNormalUptoRow.holds Try.pinned (OpenSpec.upto matrixNormalSpec)

/-- 'schismalaw05.MatrixSame', WHERE WHAT IT READS IS OF BULK AT MOST 1048576: true; the input reads as it did. -/
def matrixSameUptoRow : OpenClaim := { program := "ytmknbgiihhimfaa", sum := "ffbd865a44cfe8d6722f7b90c2006d2fff4def9588a54db22053b73a8617b7d2", func := "schisma/schismalaw05.MatrixSame", spec := "matrixSame", unfollowed := true, recurses := true, apart := false, narrowed := true }
def MatrixSameUptoSaid : Prop := matrixSameUptoRow.holds Try.pinned (OpenSpec.upto matrixSameSpec)

/-- 'schismalaw05.MatrixRank', WHERE WHAT IT READS IS OF BULK AT MOST 1048576: true; the input reads as it did. -/
def matrixRankUptoRow : OpenClaim := { program := "ytmknbgiihhimfaa", sum := "ffbd865a44cfe8d6722f7b90c2006d2fff4def9588a54db22053b73a8617b7d2", func := "schisma/schismalaw05.MatrixRank", spec := "matrixRank", unfollowed := true, recurses := true, apart := false, narrowed := true }
def MatrixRankUptoSaid : Prop := matrixRankUptoRow.holds Try.pinned (OpenSpec.upto matrixRankSpec)

/-- 'schismalaw05.MatrixKernel', WHERE WHAT IT READS IS OF BULK AT MOST 1048576: true; the input reads as it did. -/
def matrixKernelUptoRow : OpenClaim := { program := "ytmknbgiihhimfaa", sum := "ffbd865a44cfe8d6722f7b90c2006d2fff4def9588a54db22053b73a8617b7d2", func := "schisma/schismalaw05.MatrixKernel", spec := "matrixKernel", unfollowed := true, recurses := true, apart := false, narrowed := true }
def MatrixKernelUptoSaid : Prop := matrixKernelUptoRow.holds Try.pinned (OpenSpec.upto matrixKernelSpec)

/-- 'schismalaw05.MatrixDivisors', WHERE WHAT IT READS IS OF BULK AT MOST 1048576: true; the input reads as it did. -/
def matrixDivisorsUptoRow : OpenClaim := { program := "ytmknbgiihhimfaa", sum := "ffbd865a44cfe8d6722f7b90c2006d2fff4def9588a54db22053b73a8617b7d2", func := "schisma/schismalaw05.MatrixDivisors", spec := "matrixDivisors", unfollowed := true, recurses := true, apart := false, narrowed := true }
def MatrixDivisorsUptoSaid : Prop := matrixDivisorsUptoRow.holds Try.pinned (OpenSpec.upto matrixDivisorsSpec)

/-- 'schismalaw05.MatrixDouble', WHERE WHAT IT READS IS OF BULK AT MOST 1048576: true; the input reads as it did. -/
def matrixDoubleUptoRow : OpenClaim := { program := "ytmknbgiihhimfaa", sum := "ffbd865a44cfe8d6722f7b90c2006d2fff4def9588a54db22053b73a8617b7d2", func := "schisma/schismalaw05.MatrixDouble", spec := "matrixDouble", unfollowed := true, recurses := true, apart := false, narrowed := true }
def MatrixDoubleUptoSaid : Prop := matrixDoubleUptoRow.holds Try.pinned (OpenSpec.upto matrixDoubleSpec)

end Rows
end Go.Proofs.Ytmknbgiihhimfaa
