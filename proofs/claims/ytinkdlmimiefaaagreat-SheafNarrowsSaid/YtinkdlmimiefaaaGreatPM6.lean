/- Contracts of the reference's Without, and of Dates. -/
import Derived.Test.YtinkdlmimiefaaaGreatProg
import Derived.Test.YtinkdlmimiefaaaGreatPM5
namespace Go.K
open Go.Proofs Go.RowKit
set_option linter.unusedVariables false
set_option linter.unusedSimpArgs false
set_option maxRecDepth 100000
attribute [local irreducible] Seq Step CallV AnyE opX

section steps
variable {P : Program} {ρ : Env} {B : Option Nat} {w w0 w' : World} {L N : List (Option Nat × Obj)} {R : Value → World → Prop}
theorem s_callPlotT (hI : Inv B w0 w L) {o : Oper} (f : FuncId) (args : List Value) {q : Pl} {x : Value} (h : (execOp (ev ρ) o).run P w = .ok (.enter f args.toArray) w)
    (hc : Does P f args w fun v w' => ∃ v1, v = .tuple #[v1, x] ∧ GivesPlot q w v1 w') (kk : ∀ g1 c1 cl1 g2 c2 cl2 g3 c3 cl3 w', Inv B w0 w' ((g1, blk cl1 30) :: (g2, blk cl2 31) :: (g3, blk cl3 33) :: L) → Row 6 g1 q.loads.length c1 cl1 (flat eLd q.loads) → Row 6 g2 q.stands.length c2 cl2 (flat eLd q.stands) → Row 6 g3 q.spells.length c3 cl3 (flat eSp q.spells) → R (.tuple #[plv q g1 c1 g2 c2 g3 c3, x]) w') : Step P o ρ w R :=
  s_call f args h hc fun v w' ⟨v1, hv, g1, c1, cl1, g2, c2, cl2, g3, c3, cl3, hv1, hN, r1, r2, r3⟩ => by
    subst hv; subst hv1
    exact kk g1 c1 cl1 g2 c2 cl2 g3 c3 cl3 w' (hI.join hN) r1 r2 r3
end steps
def putStep (x : Int) (s : List Int × Bool) (y : Int) : List Int × Bool :=
  let o := if x ≤ y ∧ s.2 = false then s.1 ++ [x] else s.1
  (if y = x then o else o ++ [y], s.2 || decide (x ≤ y))
def putS (x : Int) (l : List Int) : List Int × Bool := l.foldl (putStep x) ([], false)
/-- A rising list with one more number. -/
def putF (x : Int) (l : List Int) : List Int := if (putS x l).2 then (putS x l).1 else (putS x l).1 ++ [x]
def datesL (acc : List Int) (l : List Nt) : List Int := l.foldl (fun a y => putF (if y.u > y.k then y.u else y.k) (putF y.k a)) acc
def datesF (p : Pl) : List Int × Int := if plotB p then (datesL [] (notesOf p), 0) else ([], 13)
end Go.K
