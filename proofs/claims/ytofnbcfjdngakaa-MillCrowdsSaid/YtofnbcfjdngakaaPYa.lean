/- Sharings of the mill, mills that are shut at an hour, Comes and Idle: what they answer of every sharing that gives each comer its hours. No condition. -/
import Derived.Test.YtofnbcfjdngakaaPY7
namespace Go.K
open Go.RowKit
set_option linter.unusedVariables false
set_option linter.unusedSimpArgs false
def posS (l : List Cm) (s : List Int) (h : Nat) (x : Int) : Prop := (x = -1 ∧ s[h]? = some 0) ∨ ∃ c, 0 ≤ x ∧ l[x.toNat]? = some c ∧ bt c.hrs h = true ∧ s[h]? = some c.fam
/-- a sharing, by comers' indices, that gives each its hours -/
def shr (l : List Cm) (H : Nat) (hs s : List Int) (Q : List Int) : Prop := Q.length = H ∧ s.length = H ∧ (∀ h x, Q[h]? = some x → posS l s h x) ∧ ∀ j, j < l.length → hs[j]? = some (cnt Q j)
/-! shut at an hour -/
def clr (v : Nat) (c : Cm) : Cm := ⟨c.fam, andNotI c.hrs ((2 ^ v : Nat) : Int), c.wants⟩
def clrs (v : Nat) (fs : List Int) (c : Cm) : Cm := if c.fam ∈ fs then clr v c else c
end Go.K
