/- What the laws' arguments read as, opened to cells. No condition. By an AI agent; no person has read it. -/
import Derived.Test.YtofnbcfjdngakaaPOn
import Derived.Test.YtofnbcfjdngakaaProg
import Derived.Test.YtofnbcfjdngakaaPD
open Go Go.Proofs Go.RowKit Go.ChangeShapes Go.Deep Go.WideShapes
namespace Go.K
set_option linter.unusedVariables false
theorem laid_ : laidOutB Try.prog = true := by kernel_rfl
section
variable {H : Type} {enc : TypeId × Value → H} {w : World} {base : Nat} {sp : Nat → Bool} {held : Bool}
theorem c3 : Try.prog.cellsOf 3 = 1 := by kernel_rfl
def q26 (y : Cm) : Prop := W64 y.fam ∧ W64 y.hrs ∧ W64 y.wants
theorem c77 : Try.prog.cellsOf 77 = 2 := by kernel_rfl
set_option maxRecDepth 20000 in
theorem ty77_of {n : Nat} {cs : List Value} {x : DataW H × List MemPlace} (h : DataW.trod enc Try.prog w base sp held n 77 cs = some x) : ∃ (a0 : Int) (a1 : Int), cs = [.int .i64 a0, .int .i64 a1] ∧ W64 a0 ∧ W64 a1 := by
  obtain ⟨hl, m, hf⟩ := elem_of Try.underlying77 c3 h
  rw [c77] at hl
  match cs, hl with
  | [v0, v1], _ =>
    obtain ⟨_, h0⟩ := hf 0 (by decide)
    obtain ⟨_, h1⟩ := hf 1 (by decide)
    obtain ⟨a0, rfl, w0⟩ := intb_of Try.underlying3 (c := v0) h0
    obtain ⟨a1, rfl, w1⟩ := intb_of Try.underlying3 (c := v1) h1
    exact ⟨a0, a1, rfl, w0, w1⟩
def q77 (y : A2) : Prop := W64 y.a ∧ W64 y.b
theorem el77_of {n : Nat} {cs : List Value} {x : DataW H × List MemPlace} (h : DataW.trod enc Try.prog w base sp held n 77 cs = some x) : ∃ y : A2, cs = eA2 y ∧ q77 y := by
  obtain ⟨a0, a1, e, w0, w1⟩ := ty77_of h
  exact ⟨⟨a0, a1⟩, e, ⟨w0, w1⟩⟩
theorem c49 : Try.prog.cellsOf 49 = 1 := by kernel_rfl
theorem c69 : Try.prog.cellsOf 69 = 2 := by kernel_rfl
set_option maxRecDepth 20000 in
theorem ty69_of {n : Nat} {cs : List Value} {x : DataW H × List MemPlace} (h : DataW.trod enc Try.prog w base sp held n 69 cs = some x) : ∃ (A0 : Option Addr) (c0 : Nat) (l0 : List Int) (A1 : Option Addr) (c1 : Nat) (l1 : List Int), cs = [.slice A0 l0.length c0, .slice A1 l1.length c1] ∧ (Cells w A0 (flat eInt l0) ∧ l0.length ≤ 9223372036854775807 ∧ l0.length ≤ c0 ∧ ∀ x ∈ l0, W64 x) ∧ (Cells w A1 (flat eInt l1) ∧ l1.length ≤ 9223372036854775807 ∧ l1.length ≤ c1 ∧ ∀ x ∈ l1, W64 x) := by
  obtain ⟨hl, m, hf⟩ := elem_of Try.underlying69 c49 h
  rw [c69] at hl
  match cs, hl with
  | [v0, v1], _ =>
    obtain ⟨_, h0⟩ := hf 0 (by decide)
    obtain ⟨_, h1⟩ := hf 1 (by decide)
    obtain ⟨A0, c0, l0, rfl, w0⟩ := row_of (q := W64) (f := eInt) (by decide) eInt_len Try.underlying49 c3 (fun h => intl_of Try.underlying3 h) (c := v0) h0
    obtain ⟨A1, c1, l1, rfl, w1⟩ := row_of (q := W64) (f := eInt) (by decide) eInt_len Try.underlying49 c3 (fun h => intl_of Try.underlying3 h) (c := v1) h1
    exact ⟨A0, c0, l0, A1, c1, l1, rfl, w0, w1⟩
end
end Go.K
