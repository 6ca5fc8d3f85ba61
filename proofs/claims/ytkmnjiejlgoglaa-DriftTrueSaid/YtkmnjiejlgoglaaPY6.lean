/- The fairest sharing is found; a sharing or a crowd; DriftEither answers true. No condition. -/
import Derived.Test.YtkmnjiejlgoglaaPY5
namespace Go.K
open Go.RowKit
set_option linter.unusedVariables false
set_option linter.unusedSimpArgs false
/-- The least of some gains. -/
def lstG : Gn → List Gn → Gn
  | m, [] => m
  | m, x :: r => if mt m x then lstG x r else lstG m r
def leastL (cs : List Ce) (l : List Cl) (ds : List Dr) : Gn := match gainsL cs l ds with
  | [] => ⟨0, 1⟩
  | g :: r => lstG g r
/-! it ends -/
def valG (g : Gn) : Int := g.num * (232792560 / g.den)
structure GC (chs : List Ch) (cs : List Ce) (c : Cl) (r : List Cl) : Prop where
  n : cs.length ≤ 24
  v : ∀ c ∈ cs, vCe c
  k : ∀ x ∈ c :: r, vCl x
  l : (c :: r).length ≤ 12
def tm1 : Gn := ⟨-1, 1⟩
/-- What is fairest. -/
structure Best (cs : List Ce) (c : Cl) (r : List Cl) (ds : List Dr) (t : Gn) : Prop where
  sh : shL (c :: r) ds c.fr
  least : t = leastL cs (c :: r) ds
  sm : smG t
  wall : (srch cs t (c :: r) c.fr).2.2 = false
/-! crowds -/
def crowdL (l : List Cl) (a b : Int) : Prop := ∃ x y, l[b.toNat]? = some x ∧ l[a.toNat]? = some y ∧ hi2 (x.to - y.fr + 1) 0 < b - a + 1
end Go.K
