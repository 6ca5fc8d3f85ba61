/-
  No cell of these rows narrows 'for every input' (looked for: loops, veiled, ifaces, maps, wideKeys, modest, calm, conditions, laid).
  DERIVED. THE GIVEN ROWS OF THIS SEAT. 11 by the template 'for every input the law returns true; each argument reads behind the call as it read before'; 0 by the template 'total and deterministic' (their statements: YtofnbcfjdngakaaTotals.lean).
  GIVEN WITH THE SEED: the statements are not yours to turn. If you find one false, say at which input.
  Laid BY PROGRAM, IN A SANDBOX (cutbox-rows.mjs): the forced cells as the released guide's own fill.sh prints them over the translation 2a908b75f985eba8… (all of the seat's roots in one cut). By AI agents, Wed Nov 11 2026. No macro, syntax, notation, axiom, sorry.
-/
import Derived.Test.YtofnbcfjdngakaaChecked
import GoSem.Claim
import GoSem.ClaimJoined
import GoSem.ClaimMapViews
import Derived.JoinedTies
import Derived.KernelRfl
namespace Go.Proofs.Ytofnbcfjdngakaa
/- THE CELL 'sum', in the pinned program and in every row, IS THE sha256 OF THE DUMP (.gsa) THAT YtofnbcfjdngakaaProg.lean LOADS. Nothing in Lean hashes anything: it is a label: what it is worth is what the hold of that sum in a sandbox is worth. -/
noncomputable def Try.pinned : Pinned := { name := "ytofnbcfjdngakaa", sum := "2a908b75f985eba844b38c29a44e459c0d660856f3c739294ebdb46a11ec889a", checked := Try.checked }
namespace Rows
def none {H : Type} : Left H := { results := [], args := [] }

/-- 'leazinglaw05.MillChecks': WHATEVER THE INPUT: true; the input reads as it did. -/
def millChecksSpec : ChangeSpec := { name := "millChecks", fn := fun _ => fun
  | [d1, d2, d3] => { results := [.lit (.bool true)], args := [d1, d2, d3] }
  | _ => none }
def millChecksRow : OpenClaim := { program := "ytofnbcfjdngakaa", sum := "2a908b75f985eba844b38c29a44e459c0d660856f3c739294ebdb46a11ec889a", func := "leazing/leazinglaw05.MillChecks", spec := "millChecks", unfollowed := true, recurses := true, apart := false }
def MillChecksSaid : Prop := millChecksRow.holds Try.pinned (OpenSpec.ofChange millChecksSpec)

/-- ITS FALSE NEIGHBOUR: 'it returns false'. Refute it at one input. -/
def millChecksWrong : ChangeSpec := { name := "millChecks", fn := fun _ => fun
  | [d1, d2, d3] => { results := [.lit (.bool false)], args := [d1, d2, d3] }
  | _ => none }
def MillChecksWrongFalsely : Prop := millChecksRow.holds Try.pinned (OpenSpec.ofChange millChecksWrong)

/-- 'leazinglaw05.MillYields': WHATEVER THE INPUT: true; the input reads as it did. -/
def millYieldsSpec : ChangeSpec := { name := "millYields", fn := fun _ => fun
  | [d1, d2] => { results := [.lit (.bool true)], args := [d1, d2] }
  | _ => none }
def millYieldsRow : OpenClaim := { program := "ytofnbcfjdngakaa", sum := "2a908b75f985eba844b38c29a44e459c0d660856f3c739294ebdb46a11ec889a", func := "leazing/leazinglaw05.MillYields", spec := "millYields", unfollowed := true, recurses := true, apart := false }
def MillYieldsSaid : Prop := millYieldsRow.holds Try.pinned (OpenSpec.ofChange millYieldsSpec)

/-- ITS FALSE NEIGHBOUR: 'it returns false'. Refute it at one input. -/
def millYieldsWrong : ChangeSpec := { name := "millYields", fn := fun _ => fun
  | [d1, d2] => { results := [.lit (.bool false)], args := [d1, d2] }
  | _ => none }
def MillYieldsWrongFalsely : Prop := millYieldsRow.holds Try.pinned (OpenSpec.ofChange millYieldsWrong)

/-- 'leazinglaw05.MillShares': WHATEVER THE INPUT: true; the input reads as it did. -/
def millSharesSpec : ChangeSpec := { name := "millShares", fn := fun _ => fun
  | [d1, d2] => { results := [.lit (.bool true)], args := [d1, d2] }
  | _ => none }
def millSharesRow : OpenClaim := { program := "ytofnbcfjdngakaa", sum := "2a908b75f985eba844b38c29a44e459c0d660856f3c739294ebdb46a11ec889a", func := "leazing/leazinglaw05.MillShares", spec := "millShares", unfollowed := true, recurses := true, apart := false }
def MillSharesSaid : Prop := millSharesRow.holds Try.pinned (OpenSpec.ofChange millSharesSpec)

/-- ITS FALSE NEIGHBOUR: 'it returns false'. Refute it at one input. -/
def millSharesWrong : ChangeSpec := { name := "millShares", fn := fun _ => fun
  | [d1, d2] => { results := [.lit (.bool false)], args := [d1, d2] }
  | _ => none }
def MillSharesWrongFalsely : Prop := millSharesRow.holds Try.pinned (OpenSpec.ofChange millSharesWrong)

/-- 'leazinglaw05.MillCrowds': WHATEVER THE INPUT: true; the input reads as it did. -/
def millCrowdsSpec : ChangeSpec := { name := "millCrowds", fn := fun _ => fun
  | [d1, d2, d3] => { results := [.lit (.bool true)], args := [d1, d2, d3] }
  | _ => none }
def millCrowdsRow : OpenClaim := { program := "ytofnbcfjdngakaa", sum := "2a908b75f985eba844b38c29a44e459c0d660856f3c739294ebdb46a11ec889a", func := "leazing/leazinglaw05.MillCrowds", spec := "millCrowds", unfollowed := true, recurses := true, apart := false }
def MillCrowdsSaid : Prop := millCrowdsRow.holds Try.pinned (OpenSpec.ofChange millCrowdsSpec)

/-- ITS FALSE NEIGHBOUR: 'it returns false'. Refute it at one input. -/
def millCrowdsWrong : ChangeSpec := { name := "millCrowds", fn := fun _ => fun
  | [d1, d2, d3] => { results := [.lit (.bool false)], args := [d1, d2, d3] }
  | _ => none }
def MillCrowdsWrongFalsely : Prop := millCrowdsRow.holds Try.pinned (OpenSpec.ofChange millCrowdsWrong)

/-- 'leazinglaw05.MillComes': WHATEVER THE INPUT: true; the input reads as it did. -/
def millComesSpec : ChangeSpec := { name := "millComes", fn := fun _ => fun
  | [d1, d2, d3] => { results := [.lit (.bool true)], args := [d1, d2, d3] }
  | _ => none }
def millComesRow : OpenClaim := { program := "ytofnbcfjdngakaa", sum := "2a908b75f985eba844b38c29a44e459c0d660856f3c739294ebdb46a11ec889a", func := "leazing/leazinglaw05.MillComes", spec := "millComes", unfollowed := true, recurses := true, apart := false }
def MillComesSaid : Prop := millComesRow.holds Try.pinned (OpenSpec.ofChange millComesSpec)

/-- ITS FALSE NEIGHBOUR: 'it returns false'. Refute it at one input. -/
def millComesWrong : ChangeSpec := { name := "millComes", fn := fun _ => fun
  | [d1, d2, d3] => { results := [.lit (.bool false)], args := [d1, d2, d3] }
  | _ => none }
def MillComesWrongFalsely : Prop := millComesRow.holds Try.pinned (OpenSpec.ofChange millComesWrong)

/-- 'leazinglaw05.MillBounds': WHATEVER THE INPUT: true; the input reads as it did. -/
def millBoundsSpec : ChangeSpec := { name := "millBounds", fn := fun _ => fun
  | [d] => { results := [.lit (.bool true)], args := [d] }
  | _ => none }
def millBoundsRow : OpenClaim := { program := "ytofnbcfjdngakaa", sum := "2a908b75f985eba844b38c29a44e459c0d660856f3c739294ebdb46a11ec889a", func := "leazing/leazinglaw05.MillBounds", spec := "millBounds", unfollowed := true, recurses := true, apart := false }
def MillBoundsSaid : Prop := millBoundsRow.holds Try.pinned (OpenSpec.ofChange millBoundsSpec)

/-- ITS FALSE NEIGHBOUR: 'it returns false'. Refute it at one input. -/
def millBoundsWrong : ChangeSpec := { name := "millBounds", fn := fun _ => fun
  | [d] => { results := [.lit (.bool false)], args := [d] }
  | _ => none }
def MillBoundsWrongFalsely : Prop := millBoundsRow.holds Try.pinned (OpenSpec.ofChange millBoundsWrong)

/-- 'leazinglaw05.MillServed': WHATEVER THE INPUT: true; the input reads as it did. -/
def millServedSpec : ChangeSpec := { name := "millServed", fn := fun _ => fun
  | [d1, d2, d3] => { results := [.lit (.bool true)], args := [d1, d2, d3] }
  | _ => none }
def millServedRow : OpenClaim := { program := "ytofnbcfjdngakaa", sum := "2a908b75f985eba844b38c29a44e459c0d660856f3c739294ebdb46a11ec889a", func := "leazing/leazinglaw05.MillServed", spec := "millServed", unfollowed := true, recurses := true, apart := false }
def MillServedSaid : Prop := millServedRow.holds Try.pinned (OpenSpec.ofChange millServedSpec)

/-- ITS FALSE NEIGHBOUR: 'it returns false'. Refute it at one input. -/
def millServedWrong : ChangeSpec := { name := "millServed", fn := fun _ => fun
  | [d1, d2, d3] => { results := [.lit (.bool false)], args := [d1, d2, d3] }
  | _ => none }
def MillServedWrongFalsely : Prop := millServedRow.holds Try.pinned (OpenSpec.ofChange millServedWrong)

/-- 'leazinglaw05.MillFair': WHATEVER THE INPUT: true; the input reads as it did. -/
def millFairSpec : ChangeSpec := { name := "millFair", fn := fun _ => fun
  | [d1, d2, d3] => { results := [.lit (.bool true)], args := [d1, d2, d3] }
  | _ => none }
def millFairRow : OpenClaim := { program := "ytofnbcfjdngakaa", sum := "2a908b75f985eba844b38c29a44e459c0d660856f3c739294ebdb46a11ec889a", func := "leazing/leazinglaw05.MillFair", spec := "millFair", unfollowed := true, recurses := true, apart := false }
def MillFairSaid : Prop := millFairRow.holds Try.pinned (OpenSpec.ofChange millFairSpec)

/-- ITS FALSE NEIGHBOUR: 'it returns false'. Refute it at one input. -/
def millFairWrong : ChangeSpec := { name := "millFair", fn := fun _ => fun
  | [d1, d2, d3] => { results := [.lit (.bool false)], args := [d1, d2, d3] }
  | _ => none }
def MillFairWrongFalsely : Prop := millFairRow.holds Try.pinned (OpenSpec.ofChange millFairWrong)

/-- 'leazinglaw05.MillTurns': WHATEVER THE INPUT: true; the input reads as it did. -/
def millTurnsSpec : ChangeSpec := { name := "millTurns", fn := fun _ => fun
  | [d1, d2, d3] => { results := [.lit (.bool true)], args := [d1, d2, d3] }
  | _ => none }
def millTurnsRow : OpenClaim := { program := "ytofnbcfjdngakaa", sum := "2a908b75f985eba844b38c29a44e459c0d660856f3c739294ebdb46a11ec889a", func := "leazing/leazinglaw05.MillTurns", spec := "millTurns", unfollowed := true, recurses := true, apart := false }
def MillTurnsSaid : Prop := millTurnsRow.holds Try.pinned (OpenSpec.ofChange millTurnsSpec)

/-- ITS FALSE NEIGHBOUR: 'it returns false'. Refute it at one input. -/
def millTurnsWrong : ChangeSpec := { name := "millTurns", fn := fun _ => fun
  | [d1, d2, d3] => { results := [.lit (.bool false)], args := [d1, d2, d3] }
  | _ => none }
def MillTurnsWrongFalsely : Prop := millTurnsRow.holds Try.pinned (OpenSpec.ofChange millTurnsWrong)

/-- 'leazinglaw05.MillMore': WHATEVER THE INPUT: true; the input reads as it did. -/
def millMoreSpec : ChangeSpec := { name := "millMore", fn := fun _ => fun
  | [d1, d2, d3] => { results := [.lit (.bool true)], args := [d1, d2, d3] }
  | _ => none }
def millMoreRow : OpenClaim := { program := "ytofnbcfjdngakaa", sum := "2a908b75f985eba844b38c29a44e459c0d660856f3c739294ebdb46a11ec889a", func := "leazing/leazinglaw05.MillMore", spec := "millMore", unfollowed := true, recurses := true, apart := false }
def MillMoreSaid : Prop := millMoreRow.holds Try.pinned (OpenSpec.ofChange millMoreSpec)

/-- ITS FALSE NEIGHBOUR: 'it returns false'. Refute it at one input. -/
def millMoreWrong : ChangeSpec := { name := "millMore", fn := fun _ => fun
  | [d1, d2, d3] => { results := [.lit (.bool false)], args := [d1, d2, d3] }
  | _ => none }
def MillMoreWrongFalsely : Prop := millMoreRow.holds Try.pinned (OpenSpec.ofChange millMoreWrong)

/-- 'leazinglaw05.MillSure': WHATEVER THE INPUT: true; the input reads as it did. -/
def millSureSpec : ChangeSpec := { name := "millSure", fn := fun _ => fun
  | [d1, d2, d3] => { results := [.lit (.bool true)], args := [d1, d2, d3] }
  | _ => none }
def millSureRow : OpenClaim := { program := "ytofnbcfjdngakaa", sum := "2a908b75f985eba844b38c29a44e459c0d660856f3c739294ebdb46a11ec889a", func := "leazing/leazinglaw05.MillSure", spec := "millSure", unfollowed := true, recurses := true, apart := false }
def MillSureSaid : Prop := millSureRow.holds Try.pinned (OpenSpec.ofChange millSureSpec)

/-- ITS FALSE NEIGHBOUR: 'it returns false'. Refute it at one input. -/
def millSureWrong : ChangeSpec := { name := "millSure", fn := fun _ => fun
  | [d1, d2, d3] => { results := [.lit (.bool false)], args := [d1, d2, d3] }
  | _ => none }
def MillSureWrongFalsely : Prop := millSureRow.holds Try.pinned (OpenSpec.ofChange millSureWrong)

/- THE SECOND FORM. 'bulk': how many values and letters a reading holds, each counted each time it is reached (what is shared counts as often as it is met; a slice's spare places count too). A statement '..UptoSaid' is the law's where the arguments, and the package variables that the reading takes, are together of bulk at most 1048576: NARROWER than '..Said'. Prove '..Said' where nothing that the law and all that it calls make is longer than what came in: it says more and counts as full. Else prove '..UptoSaid'. A law counts once. -/
mutual
def uptoBulk {H : Type} : DataW H → Nat
  | .lit (.string bytes) => bytes.length + 1
  | .lit _ => 1
  | .nil => 1
  | .ptr d => uptoBulk d + 1
  | .slice elems spare => uptoBulkAll elems + uptoBulkAll spare + 1
  | .agg parts => uptoBulkAll parts + 1
  | .iface _ d => uptoBulk d + 1
  | .map entries => uptoBulkEntries entries + 1
  | .held _ => 1
def uptoBulkAll {H : Type} : List (DataW H) → Nat
  | [] => 0
  | d :: r => uptoBulk d + uptoBulkAll r
def uptoBulkEntries {H : Type} : List (Lit × DataW H) → Nat
  | [] => 0
  | x :: r => uptoBulkEntry x + uptoBulkEntries r
def uptoBulkEntry {H : Type} : Lit × DataW H → Nat
  | (.string bytes, d) => bytes.length + uptoBulk d + 1
  | (_, d) => uptoBulk d + 1
 end
def uptoSmall : (H : Type) → List (DataW H) → Bool := fun _ ds => decide (uptoBulkAll ds ≤ 1048576)
def OpenSpec.upto (s : _root_.Go.ChangeSpec) : _root_.Go.OpenSpec := { _root_.Go.OpenSpec.ofChange s with cond := some uptoSmall }

/-- 'leazinglaw05.MillChecks', WHERE WHAT IT READS IS OF BULK AT MOST 1048576: true; the input reads as it did. -/
def millChecksUptoRow : OpenClaim := { program := "ytofnbcfjdngakaa", sum := "2a908b75f985eba844b38c29a44e459c0d660856f3c739294ebdb46a11ec889a", func := "leazing/leazinglaw05.MillChecks", spec := "millChecks", unfollowed := true, recurses := true, apart := false, narrowed := true }
def MillChecksUptoSaid : Prop := millChecksUptoRow.holds Try.pinned (OpenSpec.upto millChecksSpec)

/-- 'leazinglaw05.MillYields', WHERE WHAT IT READS IS OF BULK AT MOST 1048576: true; the input reads as it did. -/
def millYieldsUptoRow : OpenClaim := { program := "ytofnbcfjdngakaa", sum := "2a908b75f985eba844b38c29a44e459c0d660856f3c739294ebdb46a11ec889a", func := "leazing/leazinglaw05.MillYields", spec := "millYields", unfollowed := true, recurses := true, apart := false, narrowed := true }
def MillYieldsUptoSaid : Prop := millYieldsUptoRow.holds Try.pinned (OpenSpec.upto millYieldsSpec)

/-- 'leazinglaw05.MillShares', WHERE WHAT IT READS IS OF BULK AT MOST 1048576: true; the input reads as it did. -/
def millSharesUptoRow : OpenClaim := { program := "ytofnbcfjdngakaa", sum := "2a908b75f985eba844b38c29a44e459c0d660856f3c739294ebdb46a11ec889a", func := "leazing/leazinglaw05.MillShares", spec := "millShares", unfollowed := true, recurses := true, apart := false, narrowed := true }
def MillSharesUptoSaid : Prop := millSharesUptoRow.holds Try.pinned (OpenSpec.upto millSharesSpec)

/-- 'leazinglaw05.MillCrowds', WHERE WHAT IT READS IS OF BULK AT MOST 1048576: true; the input reads as it did. -/
def millCrowdsUptoRow : OpenClaim := { program := "ytofnbcfjdngakaa", sum := "2a908b75f985eba844b38c29a44e459c0d660856f3c739294ebdb46a11ec889a", func := "leazing/leazinglaw05.MillCrowds", spec := "millCrowds", unfollowed := true, recurses := true, apart := false, narrowed := true }
def MillCrowdsUptoSaid : Prop := millCrowdsUptoRow.holds Try.pinned (OpenSpec.upto millCrowdsSpec)

/-- 'leazinglaw05.MillComes', WHERE WHAT IT READS IS OF BULK AT MOST 1048576: true; the input reads as it did. -/
def millComesUptoRow : OpenClaim := { program := "ytofnbcfjdngakaa", sum := "2a908b75f985eba844b38c29a44e459c0d660856f3c739294ebdb46a11ec889a", func := "leazing/leazinglaw05.MillComes", spec := "millComes", unfollowed := true, recurses := true, apart := false, narrowed := true }
def MillComesUptoSaid : Prop := millComesUptoRow.holds Try.pinned (OpenSpec.upto millComesSpec)

/-- 'leazinglaw05.MillBounds', WHERE WHAT IT READS IS OF BULK AT MOST 1048576: true; the input reads as it did. -/
def millBoundsUptoRow : OpenClaim := { program := "ytofnbcfjdngakaa", sum := "2a908b75f985eba844b38c29a44e459c0d660856f3c739294ebdb46a11ec889a", func := "leazing/leazinglaw05.MillBounds", spec := "millBounds", unfollowed := true, recurses := true, apart := false, narrowed := true }
def MillBoundsUptoSaid : Prop := millBoundsUptoRow.holds Try.pinned (OpenSpec.upto millBoundsSpec)

/-- 'leazinglaw05.MillServed', WHERE WHAT IT READS IS OF BULK AT MOST 1048576: true; the input reads as it did. -/
def millServedUptoRow : OpenClaim := { program := "ytofnbcfjdngakaa", sum := "2a908b75f985eba844b38c29a44e459c0d660856f3c739294ebdb46a11ec889a", func := "leazing/leazinglaw05.MillServed", spec := "millServed", unfollowed := true, recurses := true, apart := false, narrowed := true }
def MillServedUptoSaid : Prop := millServedUptoRow.holds Try.pinned (OpenSpec.upto millServedSpec)

/-- 'leazinglaw05.MillFair', WHERE WHAT IT READS IS OF BULK AT MOST 1048576: true; the input reads as it did. -/
def millFairUptoRow : OpenClaim := { program := "ytofnbcfjdngakaa", sum := "2a908b75f985eba844b38c29a44e459c0d660856f3c739294ebdb46a11ec889a", func := "leazing/leazinglaw05.MillFair", spec := "millFair", unfollowed := true, recurses := true, apart := false, narrowed := true }
def MillFairUptoSaid : Prop := millFairUptoRow.holds Try.pinned (OpenSpec.upto millFairSpec)

/-- 'leazinglaw05.MillTurns', WHERE WHAT IT READS IS OF BULK AT MOST 1048576: true; the input reads as it did. -/
def millTurnsUptoRow : OpenClaim := { program := "ytofnbcfjdngakaa", sum := "2a908b75f985eba844b38c29a44e459c0d660856f3c739294ebdb46a11ec889a", func := "leazing/leazinglaw05.MillTurns", spec := "millTurns", unfollowed := true, recurses := true, apart := false, narrowed := true }
def MillTurnsUptoSaid : Prop := millTurnsUptoRow.holds Try.pinned (OpenSpec.upto millTurnsSpec)

/-- 'leazinglaw05.MillMore', WHERE WHAT IT READS IS OF BULK AT MOST 1048576: true; the input reads as it did. -/
def millMoreUptoRow : OpenClaim := { program := "ytofnbcfjdngakaa", sum := "2a908b75f985eba844b38c29a44e459c0d660856f3c739294ebdb46a11ec889a", func := "leazing/leazinglaw05.MillMore", spec := "millMore", unfollowed := true, recurses := true, apart := false, narrowed := true }
def MillMoreUptoSaid : Prop := millMoreUptoRow.holds Try.pinned (OpenSpec.upto millMoreSpec)

/-- 'leazinglaw05.MillSure', WHERE WHAT IT READS IS OF BULK AT MOST 1048576: true; the input reads as it did. -/
def millSureUptoRow : OpenClaim := { program := "ytofnbcfjdngakaa", sum := "2a908b75f985eba844b38c29a44e459c0d660856f3c739294ebdb46a11ec889a", func := "leazing/leazinglaw05.MillSure", spec := "millSure", unfollowed := true, recurses := true, apart := false, narrowed := true }
def MillSureUptoSaid : Prop := millSureUptoRow.holds Try.pinned (OpenSpec.upto millSureSpec)

end Rows
end Go.Proofs.Ytofnbcfjdngakaa
