/- Crowds: what Crowd and Unserved return is accepted, and no crowd is accepted of demands that can be served. No condition. -/
import Derived.Test.YtofnbcfjdngakaaPYb
namespace Go.K
open Go.RowKit
set_option linter.unusedVariables false
set_option linter.unusedSimpArgs false
def nb (U : Int) : Nat := (List.range' 0 24).countP (bt U)
def dF (d : List Int) (i : Nat) : Int := (d[i]?).getD 0
def acc (l : List Cm) (d : List Int) : List Int → Int → Int → List Int → Bool
  | [], U, last, dm => decide ((nb U : Int) < dm.sum)
  | x :: r, U, last, dm => if ixOf x l 0 = -1 then false else if x ≤ last then false else match l[(ixOf x l 0).toNat]? with
    | some c => acc l d r (orI U c.hrs) x (dm ++ [dF d (ixOf x l 0).toNat])
    | none => false
/-- what is taken in so far -/
def took (l : List Cm) (d : List Int) (U last : Int) (dm : List Int) (S : Nat → Bool) : Prop := (∀ i, S i = true → ∃ c, l[i]? = some c ∧ c.fam ≤ last) ∧ dm.sum = sumS S (dF d) l.length ∧ ∀ h, bt U h = true ↔ ∃ i c, S i = true ∧ l[i]? = some c ∧ bt c.hrs h = true
/-- what Crowd answers -/
def crowdA (l : List Cm) (H : Nat) (d : List Int) (z : List Int × Int) : Prop := (Feas l H d ∧ z = ([], 55)) ∨ (¬ Feas l H d ∧ z.2 = 0 ∧ z.1.length ≤ 12 ∧ acc l d z.1 0 0 [] = true)
def mn1 (c : Cm) : Int := if c.wants < 1 then c.wants else 1
end Go.K
