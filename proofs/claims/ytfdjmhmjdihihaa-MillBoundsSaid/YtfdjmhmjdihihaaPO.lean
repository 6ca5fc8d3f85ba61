/- What the laws' arguments read as, opened to cells. No condition. By an AI agent; no person has read it. -/
import Derived.Test.YtfdjmhmjdihihaaPOn
import Derived.Test.YtfdjmhmjdihihaaProg
import Derived.Test.YtfdjmhmjdihihaaPD
open Go Go.Proofs Go.RowKit Go.ChangeShapes Go.Deep Go.WideShapes
namespace Go.K
set_option linter.unusedVariables false
theorem laid_ : laidOutB Try.prog = true := by kernel_rfl
section
variable {H : Type} {enc : TypeId × Value → H} {w : World} {base : Nat} {sp : Nat → Bool} {held : Bool}
theorem c3 : Try.prog.cellsOf 3 = 1 := by kernel_rfl
theorem c65 : Try.prog.cellsOf 65 = 6 := by kernel_rfl
set_option maxRecDepth 20000 in
theorem ty65_of {n : Nat} {cs : List Value} {x : DataW H × List MemPlace} (h : DataW.trod enc Try.prog w base sp held n 65 cs = some x) : ∃ (a0 : Int) (a1 : Int) (a2 : Int) (a3 : Int) (a4 : Int) (a5 : Int), cs = [.int .i64 a0, .int .i64 a1, .int .i64 a2, .int .i64 a3, .int .i64 a4, .int .i64 a5] ∧ W64 a0 ∧ W64 a1 ∧ W64 a2 ∧ W64 a3 ∧ W64 a4 ∧ W64 a5 := by
  obtain ⟨hl, m, hf⟩ := elem_of Try.underlying65 c3 h
  rw [c65] at hl
  match cs, hl with
  | [v0, v1, v2, v3, v4, v5], _ =>
    obtain ⟨_, h0⟩ := hf 0 (by decide)
    obtain ⟨_, h1⟩ := hf 1 (by decide)
    obtain ⟨_, h2⟩ := hf 2 (by decide)
    obtain ⟨_, h3⟩ := hf 3 (by decide)
    obtain ⟨_, h4⟩ := hf 4 (by decide)
    obtain ⟨_, h5⟩ := hf 5 (by decide)
    obtain ⟨a0, rfl, w0⟩ := intb_of Try.underlying3 (c := v0) h0
    obtain ⟨a1, rfl, w1⟩ := intb_of Try.underlying3 (c := v1) h1
    obtain ⟨a2, rfl, w2⟩ := intb_of Try.underlying3 (c := v2) h2
    obtain ⟨a3, rfl, w3⟩ := intb_of Try.underlying3 (c := v3) h3
    obtain ⟨a4, rfl, w4⟩ := intb_of Try.underlying3 (c := v4) h4
    obtain ⟨a5, rfl, w5⟩ := intb_of Try.underlying3 (c := v5) h5
    exact ⟨a0, a1, a2, a3, a4, a5, rfl, w0, w1, w2, w3, w4, w5⟩
end
end Go.K
