/- More operations: bits, shifts, an array's element by a variable, a field of a row's element. No condition. -/
import Derived.Test.YtkmnjiejlgoglaaPKK2
namespace Go.K
open Go.RowKit
set_option linter.unusedSimpArgs false
set_option linter.unusedVariables false
def andI (a b : Int) : Int := ((a.toNat &&& b.toNat : Nat) : Int)
def orI (a b : Int) : Int := ((a.toNat ||| b.toNat : Nat) : Int)
def andNotI (a b : Int) : Int := ((a.toNat &&& (18446744073709551615 - b.toNat) : Nat) : Int)
section putf
variable {α : Type} {enc : α → List Value} {k : Nat}
end putf
section ops
variable {P : Program} {ρ : Env} {B : List Nat} {w w0 : World} {L : List (Option Nat × Obj)} {R : Value → World → Prop} {d : Option Nat} {ty : TypeId} {pos : String} {af : Array Edge} {gd : Option (Nat × Bool)}
/-- The address of an array's element. -/
theorem s_idxArr {T E : TypeId} {n sz : Nat} {x y : Operand} {b off : Nat} {i : Int} (j : Nat) (hT : P.underlying T = some (.array n E)) (hS : ∀ w, (Go.sizeOf E).run P w = .ok sz w) (hx : ev ρ x = .pointer (some ⟨b, off, none⟩)) (hy : ev ρ y = .int .i64 i) (hi : i = (j : Int)) (hj : j < n) (o : Nat) (ho : off + j * sz = o)
    (kk : R (.pointer (some ⟨b, o, none⟩)) w) : Step P ⟨d, .indexAddr T x y, ty, pos, af, gd⟩ ρ w R := by
  subst ho
  refine s_pure (.pointer (some ⟨b, off + j * sz, none⟩)) ?_ kk
  have : execOp (ev ρ) ⟨d, .indexAddr T x y, ty, pos, af, gd⟩ = (do pure (.value (← Instr.indexAt T (ev ρ x) (ev ρ y)))) := rfl
  rw [this, hx, hy]
  subst hi
  have h3 : ¬ n ≤ j := by omega
  simp [Instr.indexAt, Instr.sureAddr, asIntOf, run_underlying hT, hS, add_lit, hj]
end ops
end Go.K
