/- The reference's Stands. -/
import Derived.Test.YtinkdlmimiefaaaGreatProg
import Derived.Test.YtinkdlmimiefaaaGreatPM7
namespace Go.K
open Go.Proofs Go.RowKit
set_option linter.unusedVariables false
set_option linter.unusedSimpArgs false
set_option maxRecDepth 100000
attribute [local irreducible] Seq Step CallV AnyE opX

def insAt (x : Ld) (l : List Ld) : List Ld := l.takeWhile (fun y => decide (y.src < x.src)) ++ [x] ++ l.dropWhile (fun y => decide (y.src < x.src))
theorem insAt_at {x : Ld} : ∀ (l : List Ld) (k : Nat), (∀ i y, i < k → l[i]? = some y → y.src < x.src) → (∀ y, l[k]? = some y → ¬ y.src < x.src) → k ≤ l.length → insAt x l = l.take k ++ [x] ++ l.drop k
  | [], k, _, _, hk => by have : k = 0 := by simpa using hk
                          subst this; rfl
  | a :: l, 0, _, h2, _ => by
    have := h2 a rfl
    simp [insAt, this]
  | a :: l, k + 1, h1, h2, hk => by
    have ha := h1 0 a (by omega) rfl
    have ih := insAt_at (x := x) l k (fun i y hi hy => h1 (i + 1) y (by omega) (by simpa using hy)) (fun y hy => h2 y (by simpa using hy)) (by simpa using hk)
    simp only [insAt] at ih ⊢
    rw [List.takeWhile_cons, List.dropWhile_cons]
    simp only [ha, decide_true, if_true, List.take_succ_cons, List.drop_succ_cons, List.cons_append]
    rw [ih]
def standsF (p : Pl) (x : Ld) : Pl × Int := if plotB p then if okL 11 x = 0 ∧ hasB p x.src = false then if p.stands.length = 60 then (zeroPl, 2) else ({ p with stands := insAt x p.stands }, 0) else (zeroPl, 11) else (zeroPl, 13)
end Go.K
