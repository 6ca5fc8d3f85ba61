/- Lengths, worths and gains in closed forms; DriftLengths answers true. No condition. -/
import Derived.Test.YtkmnjiejlgoglaaPY2
namespace Go.K
open Go.RowKit
set_option linter.unusedVariables false
set_option linter.unusedSimpArgs false
def bd (B : Int) (l : List Int) : Prop := ∀ v ∈ l, -B ≤ v ∧ v ≤ B
/-! drifts -/
def hasD (n : Nat) (d : Dr) : Prop := 0 ≤ d.fr ∧ d.fr ≤ d.to ∧ d.to < (n : Int)
instance (n : Nat) (d : Dr) : Decidable (hasD n d) := by unfold hasD; infer_instance
/-! links -/
def addL (ix : Int → Int) : List Int → List Ce → List Int
  | ls, [] => ls
  | ls, c :: r => addL ix (ls.set (ix c.ch).toNat ((ls[(ix c.ch).toNat]?).getD 0 + c.ln)) r
def segC (cs : List Ce) (d : Dr) : List Ce := (cs.drop d.fr.toNat).take ((d.to + 1).toNat - d.fr.toNat)
def linksOf (chs : List Ch) (cs : List Ce) (d : Dr) : List Int := addL (fstCh 0 chs) (List.replicate chs.length 0) (segC cs d)
/-! spans -/
def mn (c : Ch) (n : Int) : Int := if n * c.hi < n * c.lo then n * c.hi else n * c.lo
def mx (c : Ch) (n : Int) : Int := if n * c.hi > n * c.lo then n * c.hi else n * c.lo
def mins (chs : List Ch) (l : List Int) : List Int := List.zipWith mn chs l
def maxs (chs : List Ch) (l : List Int) : List Int := List.zipWith mx chs l
def spanOf (chs : List Ch) (l : List Int) : Int × Int := ((mins chs l).sum, (maxs chs l).sum)
/-! Longer -/
def subAt : Nat → List Int → List Int → List Int
  | _, a, [] => a
  | i, a, x :: r => subAt (i + 1) (a.set i ((a[i]?).getD 0 - x)) r
def bd2 (B C : Int) (i : Nat) (a : List Int) : Prop := ∀ j v, a[j]? = some v → if j < i then -(B + C) ≤ v ∧ v ≤ B + C else -B ≤ v ∧ v ≤ B
def moreOf (chs : List Ch) (cs : List Ce) (a b : Dr) : List Int := subAt 0 (linksOf chs cs a) (linksOf chs cs b)
def longerOf (chs : List Ch) (cs : List Ce) (a b : Dr) : Int := if 0 < (spanOf chs (moreOf chs cs a b)).1 then 1 else if (spanOf chs (moreOf chs cs a b)).2 ≤ 0 then 0 else 2
/-! Truly -/
def trueL : List Ch → List Int → Prop
  | [], _ => True
  | _ :: _, [] => True
  | c :: l, n :: r => (c.lo ≤ n ∧ n ≤ c.hi) ∧ trueL l r
instance trueLD : (l : List Ch) → (r : List Int) → Decidable (trueL l r)
  | [], _ => isTrue trivial
  | _ :: _, [] => isTrue trivial
  | c :: l, n :: r => by unfold trueL; have := trueLD l r; infer_instance
def areL (chs : List Ch) (ls : List Int) : Prop := ls.length = chs.length ∧ trueL chs ls
instance (chs : List Ch) (ls : List Int) : Decidable (areL chs ls) := by unfold areL; infer_instance
def prods (a b : List Int) : List Int := List.zipWith (fun x y => x * y) a b
def trulyR (chs : List Ch) (cs : List Ce) (ls : List Int) (d : Dr) : Int × Int := if okG chs cs then (if areL chs ls then (if hasD cs.length d then ((prods (linksOf chs cs d) ls).sum, 0) else (0, 45)) else (0, 1)) else (0, 42)
/-! worth -/
def worthOf (cs : List Ce) (a b : Int) : Int := (((cs.drop a.toNat).take ((b + 1).toNat - a.toNat)).map Ce.wo).sum
/-! gains -/
def vGn (a : Gn) : Prop := (0 ≤ a.num ∧ a.num ≤ 1000000) ∧ 1 ≤ a.den ∧ a.den ≤ 1000000
instance (a : Gn) : Decidable (vGn a) := by unfold vGn; infer_instance
end Go.K
