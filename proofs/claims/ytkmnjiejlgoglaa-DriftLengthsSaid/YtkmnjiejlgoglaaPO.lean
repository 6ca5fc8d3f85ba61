/- What the laws' arguments read as, opened to cells. No condition. By an AI agent; no person has read it. -/
import Derived.Test.YtkmnjiejlgoglaaPOn
import Derived.Test.YtkmnjiejlgoglaaProg
import Derived.Test.YtkmnjiejlgoglaaPD
open Go Go.Proofs Go.RowKit Go.ChangeShapes Go.Deep Go.WideShapes
namespace Go.K
set_option linter.unusedVariables false
theorem laid_ : laidOutB Try.prog = true := by kernel_rfl
section
variable {H : Type} {enc : TypeId × Value → H} {w : World} {base : Nat} {sp : Nat → Bool} {held : Bool}
theorem c22 : Try.prog.cellsOf 22 = 1 := by kernel_rfl
theorem c3 : Try.prog.cellsOf 3 = 1 := by kernel_rfl
theorem c28 : Try.prog.cellsOf 28 = 2 := by kernel_rfl
set_option maxRecDepth 20000 in
theorem ty28_of {n : Nat} {cs : List Value} {x : DataW H × List MemPlace} (h : DataW.trod enc Try.prog w base sp held n 28 cs = some x) : ∃ (a0 : Int) (a1 : Int), cs = [.int .i64 a0, .int .i64 a1] ∧ W64 a0 ∧ W64 a1 := by
  obtain ⟨hl, m, hf⟩ := field_of Try.underlying28 h
  rw [c28] at hl
  match cs, hl with
  | [v0, v1], _ =>
    obtain ⟨_, h0⟩ := hf 0 _ rfl 3 0 1 rfl rfl c3
    obtain ⟨_, h1⟩ := hf 1 _ rfl 3 1 1 rfl rfl c3
    obtain ⟨a0, rfl, w0⟩ := intb_of Try.underlying3 (c := v0) h0
    obtain ⟨a1, rfl, w1⟩ := intb_of Try.underlying3 (c := v1) h1
    exact ⟨a0, a1, rfl, w0, w1⟩
theorem c30 : Try.prog.cellsOf 30 = 3 := by kernel_rfl
set_option maxRecDepth 20000 in
theorem ty30_of {n : Nat} {cs : List Value} {x : DataW H × List MemPlace} (h : DataW.trod enc Try.prog w base sp held n 30 cs = some x) : ∃ (a0 : Int) (a1 : Int) (a2 : Int), cs = [.int .i64 a0, .int .i64 a1, .int .i64 a2] ∧ W64 a0 ∧ W64 a1 ∧ W64 a2 := by
  obtain ⟨hl, m, hf⟩ := field_of Try.underlying30 h
  rw [c30] at hl
  match cs, hl with
  | [v0, v1, v2], _ =>
    obtain ⟨_, h0⟩ := hf 0 _ rfl 3 0 1 rfl rfl c3
    obtain ⟨_, h1⟩ := hf 1 _ rfl 28 1 2 rfl rfl c28
    obtain ⟨a0, rfl, w0⟩ := intb_of Try.underlying3 (c := v0) h0
    obtain ⟨a1, a2, e1, w1, w2⟩ := ty28_of (cs := [v1, v2]) h1
    cases e1
    exact ⟨a0, a1, a2, rfl, w0, w1, w2⟩
def q30 (y : Ch) : Prop := W64 y.id ∧ W64 y.lo ∧ W64 y.hi
theorem el30_of {n : Nat} {cs : List Value} {x : DataW H × List MemPlace} (h : DataW.trod enc Try.prog w base sp held n 30 cs = some x) : ∃ y : Ch, cs = eCh y ∧ q30 y := by
  obtain ⟨a0, a1, a2, e, w0, w1, w2⟩ := ty30_of h
  exact ⟨⟨a0, a1, a2⟩, e, ⟨w0, w1, w2⟩⟩
theorem c23 : Try.prog.cellsOf 23 = 1 := by kernel_rfl
theorem c32 : Try.prog.cellsOf 32 = 3 := by kernel_rfl
set_option maxRecDepth 20000 in
theorem ty32_of {n : Nat} {cs : List Value} {x : DataW H × List MemPlace} (h : DataW.trod enc Try.prog w base sp held n 32 cs = some x) : ∃ (a0 : Int) (a1 : Int) (a2 : Int), cs = [.int .i64 a0, .int .i64 a1, .int .i64 a2] ∧ W64 a0 ∧ W64 a1 ∧ W64 a2 := by
  obtain ⟨hl, m, hf⟩ := field_of Try.underlying32 h
  rw [c32] at hl
  match cs, hl with
  | [v0, v1, v2], _ =>
    obtain ⟨_, h0⟩ := hf 0 _ rfl 3 0 1 rfl rfl c3
    obtain ⟨_, h1⟩ := hf 1 _ rfl 3 1 1 rfl rfl c3
    obtain ⟨_, h2⟩ := hf 2 _ rfl 3 2 1 rfl rfl c3
    obtain ⟨a0, rfl, w0⟩ := intb_of Try.underlying3 (c := v0) h0
    obtain ⟨a1, rfl, w1⟩ := intb_of Try.underlying3 (c := v1) h1
    obtain ⟨a2, rfl, w2⟩ := intb_of Try.underlying3 (c := v2) h2
    exact ⟨a0, a1, a2, rfl, w0, w1, w2⟩
def q32 (y : Ce) : Prop := W64 y.ch ∧ W64 y.ln ∧ W64 y.wo
theorem el32_of {n : Nat} {cs : List Value} {x : DataW H × List MemPlace} (h : DataW.trod enc Try.prog w base sp held n 32 cs = some x) : ∃ y : Ce, cs = eCe y ∧ q32 y := by
  obtain ⟨a0, a1, a2, e, w0, w1, w2⟩ := ty32_of h
  exact ⟨⟨a0, a1, a2⟩, e, ⟨w0, w1, w2⟩⟩
theorem c25 : Try.prog.cellsOf 25 = 2 := by kernel_rfl
set_option maxRecDepth 20000 in
theorem ty25_of {n : Nat} {cs : List Value} {x : DataW H × List MemPlace} (h : DataW.trod enc Try.prog w base sp held n 25 cs = some x) : ∃ (A0 : Option Addr) (c0 : Nat) (l0 : List Ch) (A1 : Option Addr) (c1 : Nat) (l1 : List Ce), cs = [.slice A0 l0.length c0, .slice A1 l1.length c1] ∧ (Cells w A0 (flat eCh l0) ∧ l0.length ≤ 9223372036854775807 ∧ l0.length ≤ c0 ∧ ∀ x ∈ l0, q30 x) ∧ (Cells w A1 (flat eCe l1) ∧ l1.length ≤ 9223372036854775807 ∧ l1.length ≤ c1 ∧ ∀ x ∈ l1, q32 x) := by
  obtain ⟨hl, m, hf⟩ := field_of Try.underlying25 h
  rw [c25] at hl
  match cs, hl with
  | [v0, v1], _ =>
    obtain ⟨_, h0⟩ := hf 0 _ rfl 22 0 1 rfl rfl c22
    obtain ⟨_, h1⟩ := hf 1 _ rfl 23 1 1 rfl rfl c23
    obtain ⟨A0, c0, l0, rfl, w0⟩ := row_of (q := q30) (f := eCh) (by decide) eCh_len Try.underlying22 c30 (fun h => el30_of h) (c := v0) h0
    obtain ⟨A1, c1, l1, rfl, w1⟩ := row_of (q := q32) (f := eCe) (by decide) eCe_len Try.underlying23 c32 (fun h => el32_of h) (c := v1) h1
    exact ⟨A0, c0, l0, A1, c1, l1, rfl, w0, w1⟩
def q34 (y : Cl) : Prop := W64 y.fam ∧ W64 y.hd ∧ W64 y.fr ∧ W64 y.to
theorem c49 : Try.prog.cellsOf 49 = 2 := by kernel_rfl
set_option maxRecDepth 20000 in
theorem ty49_of {n : Nat} {cs : List Value} {x : DataW H × List MemPlace} (h : DataW.trod enc Try.prog w base sp held n 49 cs = some x) : ∃ (a0 : Int) (a1 : Int), cs = [.int .i64 a0, .int .i64 a1] ∧ W64 a0 ∧ W64 a1 := by
  obtain ⟨hl, m, hf⟩ := field_of Try.underlying49 h
  rw [c49] at hl
  match cs, hl with
  | [v0, v1], _ =>
    obtain ⟨_, h0⟩ := hf 0 _ rfl 3 0 1 rfl rfl c3
    obtain ⟨_, h1⟩ := hf 1 _ rfl 3 1 1 rfl rfl c3
    obtain ⟨a0, rfl, w0⟩ := intb_of Try.underlying3 (c := v0) h0
    obtain ⟨a1, rfl, w1⟩ := intb_of Try.underlying3 (c := v1) h1
    exact ⟨a0, a1, rfl, w0, w1⟩
theorem c51 : Try.prog.cellsOf 51 = 2 := by kernel_rfl
set_option maxRecDepth 20000 in
theorem ty51_of {n : Nat} {cs : List Value} {x : DataW H × List MemPlace} (h : DataW.trod enc Try.prog w base sp held n 51 cs = some x) : ∃ (a0 : Int) (a1 : Int), cs = [.int .i64 a0, .int .i64 a1] ∧ W64 a0 ∧ W64 a1 := by
  obtain ⟨hl, m, hf⟩ := field_of Try.underlying51 h
  rw [c51] at hl
  match cs, hl with
  | [v0, v1], _ =>
    obtain ⟨_, h0⟩ := hf 0 _ rfl 3 0 1 rfl rfl c3
    obtain ⟨_, h1⟩ := hf 1 _ rfl 3 1 1 rfl rfl c3
    obtain ⟨a0, rfl, w0⟩ := intb_of Try.underlying3 (c := v0) h0
    obtain ⟨a1, rfl, w1⟩ := intb_of Try.underlying3 (c := v1) h1
    exact ⟨a0, a1, rfl, w0, w1⟩
theorem c52 : Try.prog.cellsOf 52 = 1 := by kernel_rfl
theorem c54 : Try.prog.cellsOf 54 = 9 := by kernel_rfl
set_option maxRecDepth 20000 in
theorem ty54_of {n : Nat} {cs : List Value} {x : DataW H × List MemPlace} (h : DataW.trod enc Try.prog w base sp held n 54 cs = some x) : ∃ (a0 : Int) (a1 : Int) (a2 : Int) (a3 : Int) (a4 : Int) (a5 : Int) (a6 : Int) (a7 : Int) (A8 : Option Addr) (c8 : Nat) (l8 : List Int), cs = [.int .i64 a0, .int .i64 a1, .int .i64 a2, .int .i64 a3, .int .i64 a4, .int .i64 a5, .int .i64 a6, .int .i64 a7, .slice A8 l8.length c8] ∧ W64 a0 ∧ W64 a1 ∧ W64 a2 ∧ W64 a3 ∧ W64 a4 ∧ W64 a5 ∧ W64 a6 ∧ W64 a7 ∧ (Cells w A8 (flat eInt l8) ∧ l8.length ≤ 9223372036854775807 ∧ l8.length ≤ c8 ∧ ∀ x ∈ l8, W64 x) := by
  obtain ⟨hl, m, hf⟩ := field_of Try.underlying54 h
  rw [c54] at hl
  match cs, hl with
  | [v0, v1, v2, v3, v4, v5, v6, v7, v8], _ =>
    obtain ⟨_, h0⟩ := hf 0 _ rfl 49 0 2 rfl rfl c49
    obtain ⟨_, h1⟩ := hf 1 _ rfl 49 2 2 rfl rfl c49
    obtain ⟨_, h2⟩ := hf 2 _ rfl 51 4 2 rfl rfl c51
    obtain ⟨_, h3⟩ := hf 3 _ rfl 51 6 2 rfl rfl c51
    obtain ⟨_, h4⟩ := hf 4 _ rfl 52 8 1 rfl rfl c52
    obtain ⟨a0, a1, e0, w0, w1⟩ := ty49_of (cs := [v0, v1]) h0
    cases e0
    obtain ⟨a2, a3, e1, w2, w3⟩ := ty49_of (cs := [v2, v3]) h1
    cases e1
    obtain ⟨a4, a5, e2, w4, w5⟩ := ty51_of (cs := [v4, v5]) h2
    cases e2
    obtain ⟨a6, a7, e3, w6, w7⟩ := ty51_of (cs := [v6, v7]) h3
    cases e3
    obtain ⟨A8, c8, l8, rfl, w8⟩ := row_of (q := W64) (f := eInt) (by decide) eInt_len Try.underlying52 c3 (fun h => intl_of Try.underlying3 h) (c := v8) h4
    exact ⟨a0, a1, a2, a3, a4, a5, a6, a7, A8, c8, l8, rfl, w0, w1, w2, w3, w4, w5, w6, w7, w8⟩
def q101 (y : A2) : Prop := W64 y.a ∧ W64 y.b
def q155 (y : A3) : Prop := W64 y.a ∧ W64 y.b ∧ W64 y.c
def q49 (y : Dr) : Prop := W64 y.fr ∧ W64 y.to
end
end Go.K
