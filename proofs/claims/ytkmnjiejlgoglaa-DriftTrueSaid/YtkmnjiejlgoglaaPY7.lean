/- Walls: that of the search is accepted, and no wall is accepted for a gain that a sharing exceeds. No condition. -/
import Derived.Test.YtkmnjiejlgoglaaPY6
namespace Go.K
open Go.RowKit
set_option linter.unusedVariables false
set_option linter.unusedSimpArgs false
/-- One step of a wall. -/
def stepW (cs : List Ce) (t : Gn) (c : Cl) (s n : Int) : Prop := hi2 c.fr s < n ∧ ¬ mt (gnC cs c (hi2 c.fr s) (n - 2)) t
instance (cs : List Ce) (t : Gn) (c : Cl) (s n : Int) : Decidable (stepW cs t c s n) := by unfold stepW; infer_instance
def shW (cs : List Ce) (t : Gn) : List Cl → Int → List Int → Prop
  | c :: _, s, [n] => stepW cs t c s n ∧ c.to < n - 1
  | c :: r, s, n :: m :: l => stepW cs t c s n ∧ shW cs t r n (m :: l)
  | _, _, _ => False
/-- A wall's numbers are in order. -/
def isW (l : List Cl) (fst : Int) (ns : List Int) : Prop := (0 ≤ fst ∧ fst ≤ (l.length : Int) - 1) ∧ (2 ≤ (ns.length : Int) ∧ (ns.length : Int) ≤ (l.length : Int) - fst + 1) ∧ (∀ n ∈ ns, 0 ≤ n ∧ n ≤ 25) ∧ ∃ c, l[fst.toNat]? = some c ∧ ns[0]? = some c.fr
/-- A wall that is accepted. -/
def wallOK (cs : List Ce) (l : List Cl) (fst : Int) (ns : List Int) (t : Gn) : Prop := vGn t ∧ isW l fst ns ∧ ∃ c, l[fst.toNat]? = some c ∧ shW cs t (l.drop fst.toNat) c.fr (ns.drop 1)
end Go.K
