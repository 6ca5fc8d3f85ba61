/-
  No cell of these rows narrows 'for every input' (looked for: loops, veiled, ifaces, maps, wideKeys, modest, calm, conditions, laid).
  DERIVED. THE GIVEN ROWS OF THIS SEAT. 8 by the template 'for every input the law returns true; each argument reads behind the call as it read before'; 0 by the template 'total and deterministic' (their statements: YtkmnjiejlgoglaaTotals.lean).
  GIVEN WITH THE SEED: the statements are not yours to turn. If you find one false, say at which input.
  Laid BY PROGRAM, IN A SANDBOX (cutbox-rows.mjs): the forced cells as the released guide's own fill.sh prints them over the translation 55d3ec265cae12f5… (all of the seat's roots in one cut). By AI agents, Wed Nov 11 2026. No macro, syntax, notation, axiom, sorry.
-/
import Derived.Test.YtkmnjiejlgoglaaChecked
import GoSem.Claim
import GoSem.ClaimJoined
import GoSem.ClaimMapViews
import Derived.JoinedTies
import Derived.KernelRfl
namespace Go.Proofs.Ytkmnjiejlgoglaa
/- THE CELL 'sum', in the pinned program and in every row, IS THE sha256 OF THE DUMP (.gsa) THAT YtkmnjiejlgoglaaProg.lean LOADS. Nothing in Lean hashes anything: it is a label: what it is worth is what the hold of that sum in a sandbox is worth. -/
noncomputable def Try.pinned : Pinned := { name := "ytkmnjiejlgoglaa", sum := "55d3ec265cae12f5d2a4b3b8150e496e2bb1978de299049520cd96108f6dae32", checked := Try.checked }
namespace Rows
def none {H : Type} : Left H := { results := [], args := [] }

/-- 'leazinglaw04.DriftChecks': WHATEVER THE INPUT: true; the input reads as it did. -/
def driftChecksSpec : ChangeSpec := { name := "driftChecks", fn := fun _ => fun
  | [d1, d2, d3] => { results := [.lit (.bool true)], args := [d1, d2, d3] }
  | _ => none }
def driftChecksRow : OpenClaim := { program := "ytkmnjiejlgoglaa", sum := "55d3ec265cae12f5d2a4b3b8150e496e2bb1978de299049520cd96108f6dae32", func := "leazing/leazinglaw04.DriftChecks", spec := "driftChecks", unfollowed := true, recurses := true, apart := false }
def DriftChecksSaid : Prop := driftChecksRow.holds Try.pinned (OpenSpec.ofChange driftChecksSpec)

/-- ITS FALSE NEIGHBOUR: 'it returns false'. Refute it at one input. -/
def driftChecksWrong : ChangeSpec := { name := "driftChecks", fn := fun _ => fun
  | [d1, d2, d3] => { results := [.lit (.bool false)], args := [d1, d2, d3] }
  | _ => none }
def DriftChecksWrongFalsely : Prop := driftChecksRow.holds Try.pinned (OpenSpec.ofChange driftChecksWrong)

/-- 'leazinglaw04.DriftLengths': WHATEVER THE INPUT: true; the input reads as it did. -/
def driftLengthsSpec : ChangeSpec := { name := "driftLengths", fn := fun _ => fun
  | [d1, d2] => { results := [.lit (.bool true)], args := [d1, d2] }
  | _ => none }
def driftLengthsRow : OpenClaim := { program := "ytkmnjiejlgoglaa", sum := "55d3ec265cae12f5d2a4b3b8150e496e2bb1978de299049520cd96108f6dae32", func := "leazing/leazinglaw04.DriftLengths", spec := "driftLengths", unfollowed := true, recurses := true, apart := false }
def DriftLengthsSaid : Prop := driftLengthsRow.holds Try.pinned (OpenSpec.ofChange driftLengthsSpec)

/-- ITS FALSE NEIGHBOUR: 'it returns false'. Refute it at one input. -/
def driftLengthsWrong : ChangeSpec := { name := "driftLengths", fn := fun _ => fun
  | [d1, d2] => { results := [.lit (.bool false)], args := [d1, d2] }
  | _ => none }
def DriftLengthsWrongFalsely : Prop := driftLengthsRow.holds Try.pinned (OpenSpec.ofChange driftLengthsWrong)

/-- 'leazinglaw04.DriftShares': WHATEVER THE INPUT: true; the input reads as it did. -/
def driftSharesSpec : ChangeSpec := { name := "driftShares", fn := fun _ => fun
  | [d1, d2, d3] => { results := [.lit (.bool true)], args := [d1, d2, d3] }
  | _ => none }
def driftSharesRow : OpenClaim := { program := "ytkmnjiejlgoglaa", sum := "55d3ec265cae12f5d2a4b3b8150e496e2bb1978de299049520cd96108f6dae32", func := "leazing/leazinglaw04.DriftShares", spec := "driftShares", unfollowed := true, recurses := true, apart := false }
def DriftSharesSaid : Prop := driftSharesRow.holds Try.pinned (OpenSpec.ofChange driftSharesSpec)

/-- ITS FALSE NEIGHBOUR: 'it returns false'. Refute it at one input. -/
def driftSharesWrong : ChangeSpec := { name := "driftShares", fn := fun _ => fun
  | [d1, d2, d3] => { results := [.lit (.bool false)], args := [d1, d2, d3] }
  | _ => none }
def DriftSharesWrongFalsely : Prop := driftSharesRow.holds Try.pinned (OpenSpec.ofChange driftSharesWrong)

/-- 'leazinglaw04.DriftTrue': WHATEVER THE INPUT: true; the input reads as it did. -/
def driftTrueSpec : ChangeSpec := { name := "driftTrue", fn := fun _ => fun
  | [d1, d2, d3] => { results := [.lit (.bool true)], args := [d1, d2, d3] }
  | _ => none }
def driftTrueRow : OpenClaim := { program := "ytkmnjiejlgoglaa", sum := "55d3ec265cae12f5d2a4b3b8150e496e2bb1978de299049520cd96108f6dae32", func := "leazing/leazinglaw04.DriftTrue", spec := "driftTrue", unfollowed := true, recurses := true, apart := false }
def DriftTrueSaid : Prop := driftTrueRow.holds Try.pinned (OpenSpec.ofChange driftTrueSpec)

/-- ITS FALSE NEIGHBOUR: 'it returns false'. Refute it at one input. -/
def driftTrueWrong : ChangeSpec := { name := "driftTrue", fn := fun _ => fun
  | [d1, d2, d3] => { results := [.lit (.bool false)], args := [d1, d2, d3] }
  | _ => none }
def DriftTrueWrongFalsely : Prop := driftTrueRow.holds Try.pinned (OpenSpec.ofChange driftTrueWrong)

/-- 'leazinglaw04.DriftEither': WHATEVER THE INPUT: true; the input reads as it did. -/
def driftEitherSpec : ChangeSpec := { name := "driftEither", fn := fun _ => fun
  | [d1, d2, d3] => { results := [.lit (.bool true)], args := [d1, d2, d3] }
  | _ => none }
def driftEitherRow : OpenClaim := { program := "ytkmnjiejlgoglaa", sum := "55d3ec265cae12f5d2a4b3b8150e496e2bb1978de299049520cd96108f6dae32", func := "leazing/leazinglaw04.DriftEither", spec := "driftEither", unfollowed := true, recurses := true, apart := false }
def DriftEitherSaid : Prop := driftEitherRow.holds Try.pinned (OpenSpec.ofChange driftEitherSpec)

/-- ITS FALSE NEIGHBOUR: 'it returns false'. Refute it at one input. -/
def driftEitherWrong : ChangeSpec := { name := "driftEither", fn := fun _ => fun
  | [d1, d2, d3] => { results := [.lit (.bool false)], args := [d1, d2, d3] }
  | _ => none }
def DriftEitherWrongFalsely : Prop := driftEitherRow.holds Try.pinned (OpenSpec.ofChange driftEitherWrong)

/-- 'leazinglaw04.DriftLeast': WHATEVER THE INPUT: true; the input reads as it did. -/
def driftLeastSpec : ChangeSpec := { name := "driftLeast", fn := fun _ => fun
  | [d1, d2, d3] => { results := [.lit (.bool true)], args := [d1, d2, d3] }
  | _ => none }
def driftLeastRow : OpenClaim := { program := "ytkmnjiejlgoglaa", sum := "55d3ec265cae12f5d2a4b3b8150e496e2bb1978de299049520cd96108f6dae32", func := "leazing/leazinglaw04.DriftLeast", spec := "driftLeast", unfollowed := true, recurses := true, apart := false }
def DriftLeastSaid : Prop := driftLeastRow.holds Try.pinned (OpenSpec.ofChange driftLeastSpec)

/-- ITS FALSE NEIGHBOUR: 'it returns false'. Refute it at one input. -/
def driftLeastWrong : ChangeSpec := { name := "driftLeast", fn := fun _ => fun
  | [d1, d2, d3] => { results := [.lit (.bool false)], args := [d1, d2, d3] }
  | _ => none }
def DriftLeastWrongFalsely : Prop := driftLeastRow.holds Try.pinned (OpenSpec.ofChange driftLeastWrong)

/-- 'leazinglaw04.DriftMore': WHATEVER THE INPUT: true; the input reads as it did. -/
def driftMoreSpec : ChangeSpec := { name := "driftMore", fn := fun _ => fun
  | [d1, d2] => { results := [.lit (.bool true)], args := [d1, d2] }
  | _ => none }
def driftMoreRow : OpenClaim := { program := "ytkmnjiejlgoglaa", sum := "55d3ec265cae12f5d2a4b3b8150e496e2bb1978de299049520cd96108f6dae32", func := "leazing/leazinglaw04.DriftMore", spec := "driftMore", unfollowed := true, recurses := true, apart := false }
def DriftMoreSaid : Prop := driftMoreRow.holds Try.pinned (OpenSpec.ofChange driftMoreSpec)

/-- ITS FALSE NEIGHBOUR: 'it returns false'. Refute it at one input. -/
def driftMoreWrong : ChangeSpec := { name := "driftMore", fn := fun _ => fun
  | [d1, d2] => { results := [.lit (.bool false)], args := [d1, d2] }
  | _ => none }
def DriftMoreWrongFalsely : Prop := driftMoreRow.holds Try.pinned (OpenSpec.ofChange driftMoreWrong)

/-- 'leazinglaw04.DriftTurns': WHATEVER THE INPUT: true; the input reads as it did. -/
def driftTurnsSpec : ChangeSpec := { name := "driftTurns", fn := fun _ => fun
  | [d1, d2] => { results := [.lit (.bool true)], args := [d1, d2] }
  | _ => none }
def driftTurnsRow : OpenClaim := { program := "ytkmnjiejlgoglaa", sum := "55d3ec265cae12f5d2a4b3b8150e496e2bb1978de299049520cd96108f6dae32", func := "leazing/leazinglaw04.DriftTurns", spec := "driftTurns", unfollowed := true, recurses := true, apart := false }
def DriftTurnsSaid : Prop := driftTurnsRow.holds Try.pinned (OpenSpec.ofChange driftTurnsSpec)

/-- ITS FALSE NEIGHBOUR: 'it returns false'. Refute it at one input. -/
def driftTurnsWrong : ChangeSpec := { name := "driftTurns", fn := fun _ => fun
  | [d1, d2] => { results := [.lit (.bool false)], args := [d1, d2] }
  | _ => none }
def DriftTurnsWrongFalsely : Prop := driftTurnsRow.holds Try.pinned (OpenSpec.ofChange driftTurnsWrong)

/- THE SECOND FORM. 'bulk': how many values and letters a reading holds, each counted each time it is reached (what is shared counts as often as it is met; a slice's spare places count too). A statement '..UptoSaid' is the law's where the arguments, and the package variables that the reading takes, are together of bulk at most 1048576: NARROWER than '..Said'. Prove '..Said' where nothing that the law and all that it calls make is longer than what came in: it says more and counts as full. Else prove '..UptoSaid'. A law counts once. -/
mutual
def uptoBulk {H : Type} : DataW H → Nat
  | .lit (.string bytes) => bytes.length + 1
  | .lit _ => 1
  | .nil => 1
  | .ptr d => uptoBulk d + 1
  | .slice elems spare => uptoBulkAll elems + uptoBulkAll spare + 1
  | .agg parts => uptoBulkAll parts + 1
  | .iface _ d => uptoBulk d + 1
  | .map entries => uptoBulkEntries entries + 1
  | .held _ => 1
def uptoBulkAll {H : Type} : List (DataW H) → Nat
  | [] => 0
  | d :: r => uptoBulk d + uptoBulkAll r
def uptoBulkEntries {H : Type} : List (Lit × DataW H) → Nat
  | [] => 0
  | x :: r => uptoBulkEntry x + uptoBulkEntries r
def uptoBulkEntry {H : Type} : Lit × DataW H → Nat
  | (.string bytes, d) => bytes.length + uptoBulk d + 1
  | (_, d) => uptoBulk d + 1
 end
def uptoSmall : (H : Type) → List (DataW H) → Bool := fun _ ds => decide (uptoBulkAll ds ≤ 1048576)
def OpenSpec.upto (s : _root_.Go.ChangeSpec) : _root_.Go.OpenSpec := { _root_.Go.OpenSpec.ofChange s with cond := some uptoSmall }

/-- 'leazinglaw04.DriftChecks', WHERE WHAT IT READS IS OF BULK AT MOST 1048576: true; the input reads as it did. -/
def driftChecksUptoRow : OpenClaim := { program := "ytkmnjiejlgoglaa", sum := "55d3ec265cae12f5d2a4b3b8150e496e2bb1978de299049520cd96108f6dae32", func := "leazing/leazinglaw04.DriftChecks", spec := "driftChecks", unfollowed := true, recurses := true, apart := false, narrowed := true }
def DriftChecksUptoSaid : Prop := driftChecksUptoRow.holds Try.pinned (OpenSpec.upto driftChecksSpec)

/-- 'leazinglaw04.DriftLengths', WHERE WHAT IT READS IS OF BULK AT MOST 1048576: true; the input reads as it did. -/
def driftLengthsUptoRow : OpenClaim := { program := "ytkmnjiejlgoglaa", sum := "55d3ec265cae12f5d2a4b3b8150e496e2bb1978de299049520cd96108f6dae32", func := "leazing/leazinglaw04.DriftLengths", spec := "driftLengths", unfollowed := true, recurses := true, apart := false, narrowed := true }
def DriftLengthsUptoSaid : Prop := driftLengthsUptoRow.holds Try.pinned (OpenSpec.upto driftLengthsSpec)

/-- 'leazinglaw04.DriftShares', WHERE WHAT IT READS IS OF BULK AT MOST 1048576: true; the input reads as it did. -/
def driftSharesUptoRow : OpenClaim := { program := "ytkmnjiejlgoglaa", sum := "55d3ec265cae12f5d2a4b3b8150e496e2bb1978de299049520cd96108f6dae32", func := "leazing/leazinglaw04.DriftShares", spec := "driftShares", unfollowed := true, recurses := true, apart := false, narrowed := true }
def DriftSharesUptoSaid : Prop := driftSharesUptoRow.holds Try.pinned (OpenSpec.upto driftSharesSpec)

/-- 'leazinglaw04.DriftTrue', WHERE WHAT IT READS IS OF BULK AT MOST 1048576: true; the input reads as it did. -/
def driftTrueUptoRow : OpenClaim := { program := "ytkmnjiejlgoglaa", sum := "55d3ec265cae12f5d2a4b3b8150e496e2bb1978de299049520cd96108f6dae32", func := "leazing/leazinglaw04.DriftTrue", spec := "driftTrue", unfollowed := true, recurses := true, apart := false, narrowed := true }
def DriftTrueUptoSaid : Prop := driftTrueUptoRow.holds Try.pinned (OpenSpec.upto driftTrueSpec)

/-- 'leazinglaw04.DriftEither', WHERE WHAT IT READS IS OF BULK AT MOST 1048576: true; the input reads as it did. -/
def driftEitherUptoRow : OpenClaim := { program := "ytkmnjiejlgoglaa", sum := "55d3ec265cae12f5d2a4b3b8150e496e2bb1978de299049520cd96108f6dae32", func := "leazing/leazinglaw04.DriftEither", spec := "driftEither", unfollowed := true, recurses := true, apart := false, narrowed := true }
def DriftEitherUptoSaid : Prop := driftEitherUptoRow.holds Try.pinned (OpenSpec.upto driftEitherSpec)

/-- 'leazinglaw04.DriftLeast', WHERE WHAT IT READS IS OF BULK AT MOST 1048576: true; the input reads as it did. -/
def driftLeastUptoRow : OpenClaim := { program := "ytkmnjiejlgoglaa", sum := "55d3ec265cae12f5d2a4b3b8150e496e2bb1978de299049520cd96108f6dae32", func := "leazing/leazinglaw04.DriftLeast", spec := "driftLeast", unfollowed := true, recurses := true, apart := false, narrowed := true }
def DriftLeastUptoSaid : Prop := driftLeastUptoRow.holds Try.pinned (OpenSpec.upto driftLeastSpec)

/-- 'leazinglaw04.DriftMore', WHERE WHAT IT READS IS OF BULK AT MOST 1048576: true; the input reads as it did. -/
def driftMoreUptoRow : OpenClaim := { program := "ytkmnjiejlgoglaa", sum := "55d3ec265cae12f5d2a4b3b8150e496e2bb1978de299049520cd96108f6dae32", func := "leazing/leazinglaw04.DriftMore", spec := "driftMore", unfollowed := true, recurses := true, apart := false, narrowed := true }
def DriftMoreUptoSaid : Prop := driftMoreUptoRow.holds Try.pinned (OpenSpec.upto driftMoreSpec)

/-- 'leazinglaw04.DriftTurns', WHERE WHAT IT READS IS OF BULK AT MOST 1048576: true; the input reads as it did. -/
def driftTurnsUptoRow : OpenClaim := { program := "ytkmnjiejlgoglaa", sum := "55d3ec265cae12f5d2a4b3b8150e496e2bb1978de299049520cd96108f6dae32", func := "leazing/leazinglaw04.DriftTurns", spec := "driftTurns", unfollowed := true, recurses := true, apart := false, narrowed := true }
def DriftTurnsUptoSaid : Prop := driftTurnsUptoRow.holds Try.pinned (OpenSpec.upto driftTurnsSpec)

end Rows
end Go.Proofs.Ytkmnjiejlgoglaa
