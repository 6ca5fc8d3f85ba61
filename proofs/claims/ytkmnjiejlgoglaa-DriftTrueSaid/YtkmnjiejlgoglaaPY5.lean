/- The search for a fairest sharing, in closed form: it ends, with a sharing and a wall; a sharing or a crowd. No condition. -/
import Derived.Test.YtkmnjiejlgoglaaPY4
namespace Go.K
open Go.RowKit
set_option linter.unusedVariables false
set_option linter.unusedSimpArgs false
def gnOf (w h : Int) : Gn := ⟨w.tdiv (Nat.gcd w.toNat h.toNat : Nat), h.tdiv (Nat.gcd w.toNat h.toNat : Nat)⟩
def gnC (cs : List Ce) (c : Cl) (a b : Int) : Gn := gnOf (worthOf cs a b) c.hd
/-- A gain of the game: its numbers are small. -/
def smG (g : Gn) : Prop := (-1 ≤ g.num ∧ g.num ≤ 240000) ∧ 1 ≤ g.den ∧ g.den ≤ 20
/-- One gain is more than another. -/
def mt (g t : Gn) : Prop := t.num * g.den < g.num * t.den
instance (g t : Gn) : Decidable (mt g t) := by unfold mt; infer_instance
/-! the search -/
def fstTo (p : Int → Prop) [DecidablePred p] : Nat → Int → Option Int
  | 0, _ => none
  | n + 1, a => if p a then some a else fstTo p n (a + 1)
def hi2 (a b : Int) : Int := if a > b then a else b
def srch (cs : List Ce) (t : Gn) : List Cl → Int → List Dr × List Int × Bool
  | [], _ => ([], [], true)
  | c :: r, s =>
    match fstTo (fun x => mt (gnC cs c (hi2 c.fr s) x) t) (c.to + 1 - hi2 c.fr s).toNat (hi2 c.fr s) with
    | some x => (⟨hi2 c.fr s, x⟩ :: (srch cs t r (x + 1)).1, (x + 1) :: (srch cs t r (x + 1)).2.1, (srch cs t r (x + 1)).2.2)
    | none => ([], [hi2 (c.to + 1) (hi2 c.fr s) + 1], false)
/-! sharings -/
def shL : List Cl → List Dr → Int → Prop
  | [], [], _ => True
  | c :: l, d :: ds, s => hi2 c.fr s ≤ d.fr ∧ d.fr ≤ d.to ∧ d.to ≤ c.to ∧ shL l ds (d.to + 1)
  | _, _, _ => False
instance shLD : (l : List Cl) → (ds : List Dr) → (s : Int) → Decidable (shL l ds s)
  | [], [], _ => isTrue trivial
  | c :: l, d :: ds, s => by unfold shL; have := shLD l ds (d.to + 1); infer_instance
  | [], _ :: _, _ => isFalse (fun h => h)
  | _ :: _, [], _ => isFalse (fun h => h)
def gainsL (cs : List Ce) (l : List Cl) (ds : List Dr) : List Gn := List.zipWith (fun c d => gnC cs c d.fr d.to) l ds
end Go.K
