/- Closed forms of what mill answers of yields, of the program and of the reference, and MillYields. No condition. -/
import Derived.Test.YtofnbcfjdngakaaPD
import Derived.KernelRfl
namespace Go.K
open Go.RowKit
set_option linter.unusedVariables false
set_option linter.unusedSimpArgs false
theorem bindO_some {α β : Type} (x : α) (k : α → Option β) : bindO (some x) k = k x := rfl
theorem gdO_pos {β : Type} {p : Prop} [Decidable p] {k : Option β} (h : p) : gdO p k = k := if_pos h
theorem ckO_pos {β : Type} {n : Int} {k : Option β} (h : InR n) : ckO n k = k := if_pos h
/-! the small checks -/
def isR (r : Rg) (m : Int) : Prop := 0 ≤ r.lo ∧ r.lo ≤ r.hi ∧ r.hi ≤ m
instance (r : Rg) (m : Int) : Decidable (isR r m) := by unfold isR; infer_instance
def vY (y : Yl) : Prop := (0 ≤ y.lo ∧ y.lo ≤ y.hi ∧ y.hi ≤ 1000) ∧ 2 ≤ y.toll ∧ y.toll ≤ 100
instance (y : Yl) : Decidable (vY y) := by unfold vY; infer_instance
theorem F70_eq (a b c : Int) : F70 a b c = some (decide (b ≤ a ∧ a ≤ c)) := by
  unfold F70
  by_cases h1 : b ≤ a <;> by_cases h2 : a ≤ c <;> simp [h1, h2]
theorem F71_eq (a b c : Int) : F71 a b c = some (decide (b ≤ a ∧ a ≤ c)) := F70_eq a b c
/-! flour -/
def fl (t g : Int) : Int := g - g.tdiv t
def fw (t b g : Int) : Int := fl t ((b * g).tdiv 100)
/-! the search -/
def may (y : Yl) (b : Int) (r : Rg) : Prop := ∃ g, y.lo ≤ g ∧ g ≤ y.hi ∧ r.lo ≤ fw y.toll b g ∧ fw y.toll b g ≤ r.hi
/-! bundles -/
def relT (told : List Int) (lo hi : Int) : Prop := (told = [] ∧ lo = -1 ∧ hi = 0) ∨ (told[0]? = some lo ∧ 0 ≤ lo ∧ told[told.length - 1]? = some hi)
theorem sane5 (n : Nat) : F25 (n + 2100) = some true := by kernel_rfl
end Go.K
