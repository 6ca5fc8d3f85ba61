/- What the laws' arguments read as, opened to cells. No condition. By an AI agent; no person has read it. -/
import Derived.Test.YtofnbcfjdngakaaPOn
import Derived.Test.YtofnbcfjdngakaaProg
import Derived.Test.YtofnbcfjdngakaaPD
open Go Go.Proofs Go.RowKit Go.ChangeShapes Go.Deep Go.WideShapes
namespace Go.K
set_option linter.unusedVariables false
theorem laid_ : laidOutB Try.prog = true := by kernel_rfl
section
variable {H : Type} {enc : TypeId × Value → H} {w : World} {base : Nat} {sp : Nat → Bool} {held : Bool}
theorem c3 : Try.prog.cellsOf 3 = 1 := by kernel_rfl
theorem c22 : Try.prog.cellsOf 22 = 1 := by kernel_rfl
theorem c26 : Try.prog.cellsOf 26 = 3 := by kernel_rfl
set_option maxRecDepth 20000 in
theorem ty26_of {n : Nat} {cs : List Value} {x : DataW H × List MemPlace} (h : DataW.trod enc Try.prog w base sp held n 26 cs = some x) : ∃ (a0 : Int) (a1 : Int) (a2 : Int), cs = [.int .i64 a0, .int .i64 a1, .int .i64 a2] ∧ W64 a0 ∧ W64 a1 ∧ W64 a2 := by
  obtain ⟨hl, m, hf⟩ := field_of Try.underlying26 h
  rw [c26] at hl
  match cs, hl with
  | [v0, v1, v2], _ =>
    obtain ⟨_, h0⟩ := hf 0 _ rfl 3 0 1 rfl rfl c3
    obtain ⟨_, h1⟩ := hf 1 _ rfl 3 1 1 rfl rfl c3
    obtain ⟨_, h2⟩ := hf 2 _ rfl 3 2 1 rfl rfl c3
    obtain ⟨a0, rfl, w0⟩ := intb_of Try.underlying3 (c := v0) h0
    obtain ⟨a1, rfl, w1⟩ := intb_of Try.underlying3 (c := v1) h1
    obtain ⟨a2, rfl, w2⟩ := intb_of Try.underlying3 (c := v2) h2
    exact ⟨a0, a1, a2, rfl, w0, w1, w2⟩
def q26 (y : Cm) : Prop := W64 y.fam ∧ W64 y.hrs ∧ W64 y.wants
theorem el26_of {n : Nat} {cs : List Value} {x : DataW H × List MemPlace} (h : DataW.trod enc Try.prog w base sp held n 26 cs = some x) : ∃ y : Cm, cs = eCm y ∧ q26 y := by
  obtain ⟨a0, a1, a2, e, w0, w1, w2⟩ := ty26_of h
  exact ⟨⟨a0, a1, a2⟩, e, ⟨w0, w1, w2⟩⟩
theorem c24 : Try.prog.cellsOf 24 = 2 := by kernel_rfl
set_option maxRecDepth 20000 in
theorem ty24_of {n : Nat} {cs : List Value} {x : DataW H × List MemPlace} (h : DataW.trod enc Try.prog w base sp held n 24 cs = some x) : ∃ (a0 : Int) (A1 : Option Addr) (c1 : Nat) (l1 : List Cm), cs = [.int .i64 a0, .slice A1 l1.length c1] ∧ W64 a0 ∧ (Cells w A1 (flat eCm l1) ∧ l1.length ≤ 9223372036854775807 ∧ l1.length ≤ c1 ∧ ∀ x ∈ l1, q26 x) := by
  obtain ⟨hl, m, hf⟩ := field_of Try.underlying24 h
  rw [c24] at hl
  match cs, hl with
  | [v0, v1], _ =>
    obtain ⟨_, h0⟩ := hf 0 _ rfl 3 0 1 rfl rfl c3
    obtain ⟨_, h1⟩ := hf 1 _ rfl 22 1 1 rfl rfl c22
    obtain ⟨a0, rfl, w0⟩ := intb_of Try.underlying3 (c := v0) h0
    obtain ⟨A1, c1, l1, rfl, w1⟩ := row_of (q := q26) (f := eCm) (by decide) eCm_len Try.underlying22 c26 (fun h => el26_of h) (c := v1) h1
    exact ⟨a0, A1, c1, l1, rfl, w0, w1⟩
def q77 (y : A2) : Prop := W64 y.a ∧ W64 y.b
end
end Go.K
