/- What the laws' arguments read as, opened to cells. No condition. By an AI agent; no person has read it. -/
import Derived.Test.YtfdjmhmjdihihaaPOn
import Derived.Test.YtfdjmhmjdihihaaProg
import Derived.Test.YtfdjmhmjdihihaaPD
open Go Go.Proofs Go.RowKit Go.ChangeShapes Go.Deep Go.WideShapes
namespace Go.K
set_option linter.unusedVariables false
theorem laid_ : laidOutB Try.prog = true := by kernel_rfl
section
variable {H : Type} {enc : TypeId × Value → H} {w : World} {base : Nat} {sp : Nat → Bool} {held : Bool}
theorem c3 : Try.prog.cellsOf 3 = 1 := by kernel_rfl
theorem c28 : Try.prog.cellsOf 28 = 2 := by kernel_rfl
set_option maxRecDepth 20000 in
theorem ty28_of {n : Nat} {cs : List Value} {x : DataW H × List MemPlace} (h : DataW.trod enc Try.prog w base sp held n 28 cs = some x) : ∃ (a0 : Int) (a1 : Int), cs = [.int .i64 a0, .int .i64 a1] ∧ W64 a0 ∧ W64 a1 := by
  obtain ⟨hl, m, hf⟩ := field_of Try.underlying28 h
  rw [c28] at hl
  match cs, hl with
  | [v0, v1], _ =>
    obtain ⟨_, h0⟩ := hf 0 _ rfl 3 0 1 rfl rfl c3
    obtain ⟨_, h1⟩ := hf 1 _ rfl 3 1 1 rfl rfl c3
    obtain ⟨a0, rfl, w0⟩ := intb_of Try.underlying3 (c := v0) h0
    obtain ⟨a1, rfl, w1⟩ := intb_of Try.underlying3 (c := v1) h1
    exact ⟨a0, a1, rfl, w0, w1⟩
theorem c30 : Try.prog.cellsOf 30 = 3 := by kernel_rfl
set_option maxRecDepth 20000 in
theorem ty30_of {n : Nat} {cs : List Value} {x : DataW H × List MemPlace} (h : DataW.trod enc Try.prog w base sp held n 30 cs = some x) : ∃ (a0 : Int) (a1 : Int) (a2 : Int), cs = [.int .i64 a0, .int .i64 a1, .int .i64 a2] ∧ W64 a0 ∧ W64 a1 ∧ W64 a2 := by
  obtain ⟨hl, m, hf⟩ := field_of Try.underlying30 h
  rw [c30] at hl
  match cs, hl with
  | [v0, v1, v2], _ =>
    obtain ⟨_, h0⟩ := hf 0 _ rfl 28 0 2 rfl rfl c28
    obtain ⟨_, h1⟩ := hf 1 _ rfl 3 2 1 rfl rfl c3
    obtain ⟨a0, a1, e0, w0, w1⟩ := ty28_of (cs := [v0, v1]) h0
    cases e0
    obtain ⟨a2, rfl, w2⟩ := intb_of Try.underlying3 (c := v2) h1
    exact ⟨a0, a1, a2, rfl, w0, w1, w2⟩
theorem c42 : Try.prog.cellsOf 42 = 6 := by kernel_rfl
set_option maxRecDepth 20000 in
theorem ty42_of {n : Nat} {cs : List Value} {x : DataW H × List MemPlace} (h : DataW.trod enc Try.prog w base sp held n 42 cs = some x) : ∃ (a0 : Int) (a1 : Int) (a2 : Int) (a3 : Int) (a4 : Int) (a5 : Int), cs = [.int .i64 a0, .int .i64 a1, .int .i64 a2, .int .i64 a3, .int .i64 a4, .int .i64 a5] ∧ W64 a0 ∧ W64 a1 ∧ W64 a2 ∧ W64 a3 ∧ W64 a4 ∧ W64 a5 := by
  obtain ⟨hl, m, hf⟩ := field_of Try.underlying42 h
  rw [c42] at hl
  match cs, hl with
  | [v0, v1, v2, v3, v4, v5], _ =>
    obtain ⟨_, h0⟩ := hf 0 _ rfl 28 0 2 rfl rfl c28
    obtain ⟨_, h1⟩ := hf 1 _ rfl 28 2 2 rfl rfl c28
    obtain ⟨_, h2⟩ := hf 2 _ rfl 3 4 1 rfl rfl c3
    obtain ⟨_, h3⟩ := hf 3 _ rfl 3 5 1 rfl rfl c3
    obtain ⟨a0, a1, e0, w0, w1⟩ := ty28_of (cs := [v0, v1]) h0
    cases e0
    obtain ⟨a2, a3, e1, w2, w3⟩ := ty28_of (cs := [v2, v3]) h1
    cases e1
    obtain ⟨a4, rfl, w4⟩ := intb_of Try.underlying3 (c := v4) h2
    obtain ⟨a5, rfl, w5⟩ := intb_of Try.underlying3 (c := v5) h3
    exact ⟨a0, a1, a2, a3, a4, a5, rfl, w0, w1, w2, w3, w4, w5⟩
end
end Go.K
