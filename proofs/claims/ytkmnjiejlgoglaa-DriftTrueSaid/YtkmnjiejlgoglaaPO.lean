/- What the laws' arguments read as, opened to cells. No condition. By an AI agent; no person has read it. -/
import Derived.Test.YtkmnjiejlgoglaaPOn
import Derived.Test.YtkmnjiejlgoglaaProg
import Derived.Test.YtkmnjiejlgoglaaPD
open Go Go.Proofs Go.RowKit Go.ChangeShapes Go.Deep Go.WideShapes
namespace Go.K
set_option linter.unusedVariables false
theorem laid_ : laidOutB Try.prog = true := by kernel_rfl
section
variable {H : Type} {enc : TypeId × Value → H} {w : World} {base : Nat} {sp : Nat → Bool} {held : Bool}
theorem c3 : Try.prog.cellsOf 3 = 1 := by kernel_rfl
def q30 (y : Ch) : Prop := W64 y.id ∧ W64 y.lo ∧ W64 y.hi
def q32 (y : Ce) : Prop := W64 y.ch ∧ W64 y.ln ∧ W64 y.wo
def q34 (y : Cl) : Prop := W64 y.fam ∧ W64 y.hd ∧ W64 y.fr ∧ W64 y.to
theorem c93 : Try.prog.cellsOf 93 = 1 := by kernel_rfl
theorem c101 : Try.prog.cellsOf 101 = 2 := by kernel_rfl
set_option maxRecDepth 20000 in
theorem ty101_of {n : Nat} {cs : List Value} {x : DataW H × List MemPlace} (h : DataW.trod enc Try.prog w base sp held n 101 cs = some x) : ∃ (a0 : Int) (a1 : Int), cs = [.int .i64 a0, .int .i64 a1] ∧ W64 a0 ∧ W64 a1 := by
  obtain ⟨hl, m, hf⟩ := elem_of Try.underlying101 c3 h
  rw [c101] at hl
  match cs, hl with
  | [v0, v1], _ =>
    obtain ⟨_, h0⟩ := hf 0 (by decide)
    obtain ⟨_, h1⟩ := hf 1 (by decide)
    obtain ⟨a0, rfl, w0⟩ := intb_of Try.underlying3 (c := v0) h0
    obtain ⟨a1, rfl, w1⟩ := intb_of Try.underlying3 (c := v1) h1
    exact ⟨a0, a1, rfl, w0, w1⟩
def q101 (y : A2) : Prop := W64 y.a ∧ W64 y.b
theorem el101_of {n : Nat} {cs : List Value} {x : DataW H × List MemPlace} (h : DataW.trod enc Try.prog w base sp held n 101 cs = some x) : ∃ y : A2, cs = eA2 y ∧ q101 y := by
  obtain ⟨a0, a1, e, w0, w1⟩ := ty101_of h
  exact ⟨⟨a0, a1⟩, e, ⟨w0, w1⟩⟩
theorem c94 : Try.prog.cellsOf 94 = 1 := by kernel_rfl
theorem c155 : Try.prog.cellsOf 155 = 3 := by kernel_rfl
set_option maxRecDepth 20000 in
theorem ty155_of {n : Nat} {cs : List Value} {x : DataW H × List MemPlace} (h : DataW.trod enc Try.prog w base sp held n 155 cs = some x) : ∃ (a0 : Int) (a1 : Int) (a2 : Int), cs = [.int .i64 a0, .int .i64 a1, .int .i64 a2] ∧ W64 a0 ∧ W64 a1 ∧ W64 a2 := by
  obtain ⟨hl, m, hf⟩ := elem_of Try.underlying155 c3 h
  rw [c155] at hl
  match cs, hl with
  | [v0, v1, v2], _ =>
    obtain ⟨_, h0⟩ := hf 0 (by decide)
    obtain ⟨_, h1⟩ := hf 1 (by decide)
    obtain ⟨_, h2⟩ := hf 2 (by decide)
    obtain ⟨a0, rfl, w0⟩ := intb_of Try.underlying3 (c := v0) h0
    obtain ⟨a1, rfl, w1⟩ := intb_of Try.underlying3 (c := v1) h1
    obtain ⟨a2, rfl, w2⟩ := intb_of Try.underlying3 (c := v2) h2
    exact ⟨a0, a1, a2, rfl, w0, w1, w2⟩
def q155 (y : A3) : Prop := W64 y.a ∧ W64 y.b ∧ W64 y.c
theorem el155_of {n : Nat} {cs : List Value} {x : DataW H × List MemPlace} (h : DataW.trod enc Try.prog w base sp held n 155 cs = some x) : ∃ y : A3, cs = eA3 y ∧ q155 y := by
  obtain ⟨a0, a1, a2, e, w0, w1, w2⟩ := ty155_of h
  exact ⟨⟨a0, a1, a2⟩, e, ⟨w0, w1, w2⟩⟩
theorem c96 : Try.prog.cellsOf 96 = 3 := by kernel_rfl
set_option maxRecDepth 20000 in
theorem ty96_of {n : Nat} {cs : List Value} {x : DataW H × List MemPlace} (h : DataW.trod enc Try.prog w base sp held n 96 cs = some x) : ∃ (A0 : Option Addr) (c0 : Nat) (l0 : List A2) (A1 : Option Addr) (c1 : Nat) (l1 : List A3) (A2 : Option Addr) (c2 : Nat) (l2 : List A3), cs = [.slice A0 l0.length c0, .slice A1 l1.length c1, .slice A2 l2.length c2] ∧ (Cells w A0 (flat eA2 l0) ∧ l0.length ≤ 9223372036854775807 ∧ l0.length ≤ c0 ∧ ∀ x ∈ l0, q101 x) ∧ (Cells w A1 (flat eA3 l1) ∧ l1.length ≤ 9223372036854775807 ∧ l1.length ≤ c1 ∧ ∀ x ∈ l1, q155 x) ∧ (Cells w A2 (flat eA3 l2) ∧ l2.length ≤ 9223372036854775807 ∧ l2.length ≤ c2 ∧ ∀ x ∈ l2, q155 x) := by
  obtain ⟨hl, m, hf⟩ := field_of Try.underlying96 h
  rw [c96] at hl
  match cs, hl with
  | [v0, v1, v2], _ =>
    obtain ⟨_, h0⟩ := hf 0 _ rfl 93 0 1 rfl rfl c93
    obtain ⟨_, h1⟩ := hf 1 _ rfl 94 1 1 rfl rfl c94
    obtain ⟨_, h2⟩ := hf 2 _ rfl 94 2 1 rfl rfl c94
    obtain ⟨A0, c0, l0, rfl, w0⟩ := row_of (q := q101) (f := eA2) (by decide) eA2_len Try.underlying93 c101 (fun h => el101_of h) (c := v0) h0
    obtain ⟨A1, c1, l1, rfl, w1⟩ := row_of (q := q155) (f := eA3) (by decide) eA3_len Try.underlying94 c155 (fun h => el155_of h) (c := v1) h1
    obtain ⟨A2, c2, l2, rfl, w2⟩ := row_of (q := q155) (f := eA3) (by decide) eA3_len Try.underlying94 c155 (fun h => el155_of h) (c := v2) h2
    exact ⟨A0, c0, l0, A1, c1, l1, A2, c2, l2, rfl, w0, w1, w2⟩
def q49 (y : Dr) : Prop := W64 y.fr ∧ W64 y.to
theorem c97 : Try.prog.cellsOf 97 = 4 := by kernel_rfl
set_option maxRecDepth 20000 in
theorem ty97_of {n : Nat} {cs : List Value} {x : DataW H × List MemPlace} (h : DataW.trod enc Try.prog w base sp held n 97 cs = some x) : ∃ (a0 : Int) (a1 : Int) (a2 : Int) (a3 : Int), cs = [.int .i64 a0, .int .i64 a1, .int .i64 a2, .int .i64 a3] ∧ W64 a0 ∧ W64 a1 ∧ W64 a2 ∧ W64 a3 := by
  obtain ⟨hl, m, hf⟩ := elem_of Try.underlying97 c3 h
  rw [c97] at hl
  match cs, hl with
  | [v0, v1, v2, v3], _ =>
    obtain ⟨_, h0⟩ := hf 0 (by decide)
    obtain ⟨_, h1⟩ := hf 1 (by decide)
    obtain ⟨_, h2⟩ := hf 2 (by decide)
    obtain ⟨_, h3⟩ := hf 3 (by decide)
    obtain ⟨a0, rfl, w0⟩ := intb_of Try.underlying3 (c := v0) h0
    obtain ⟨a1, rfl, w1⟩ := intb_of Try.underlying3 (c := v1) h1
    obtain ⟨a2, rfl, w2⟩ := intb_of Try.underlying3 (c := v2) h2
    obtain ⟨a3, rfl, w3⟩ := intb_of Try.underlying3 (c := v3) h3
    exact ⟨a0, a1, a2, a3, rfl, w0, w1, w2, w3⟩
end
end Go.K
