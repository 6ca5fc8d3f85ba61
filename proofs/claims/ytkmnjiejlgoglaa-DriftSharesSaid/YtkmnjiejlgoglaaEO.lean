import Derived.Test.YtkmnjiejlgoglaaEKK3
import Derived.Test.YtkmnjiejlgoglaaProg
import Derived.Test.YtkmnjiejlgoglaaED
open Go Go.Proofs Go.RowKit Go.ChangeShapes Go.Deep Go.WideShapes
namespace Go.K
set_option linter.unusedVariables false
theorem laid_ : laidOutB Try.prog = true := by kernel_rfl
section
variable {H : Type} {enc : TypeId × Value → H} {w : World} {base : Nat} {sp : Nat → Bool} {held : Bool}
theorem c22 : Try.prog.cellsOf 22 = 1 := by kernel_rfl
theorem c3 : Try.prog.cellsOf 3 = 1 := by kernel_rfl
theorem c28 : Try.prog.cellsOf 28 = 2 := by kernel_rfl
set_option maxRecDepth 20000 in
theorem ty28_of {n : Nat} {cs : List Value} {x : DataW H × List MemPlace} (h : DataW.trod enc Try.prog w base sp held n 28 cs = some x) : ∃ (a0 : Int) (a1 : Int), cs = [.int .i64 a0, .int .i64 a1] ∧ W64 a0 ∧ W64 a1 := by
  obtain ⟨hl, m, hf⟩ := pc Try.underlying28 h
  rw [c28] at hl
  match cs, hl with
  | [v0, v1], _ =>
    obtain ⟨_, h0⟩ := hf 0 _ rfl 3 0 1 rfl rfl c3
    obtain ⟨_, h1⟩ := hf 1 _ rfl 3 1 1 rfl rfl c3
    obtain ⟨a0, rfl, w0⟩ := ft Try.underlying3 (c := v0) h0
    obtain ⟨a1, rfl, w1⟩ := ft Try.underlying3 (c := v1) h1
    exact ⟨a0, a1, rfl, w0, w1⟩
theorem c30 : Try.prog.cellsOf 30 = 3 := by kernel_rfl
set_option maxRecDepth 20000 in
theorem ty30_of {n : Nat} {cs : List Value} {x : DataW H × List MemPlace} (h : DataW.trod enc Try.prog w base sp held n 30 cs = some x) : ∃ (a0 : Int) (a1 : Int) (a2 : Int), cs = [.int .i64 a0, .int .i64 a1, .int .i64 a2] ∧ W64 a0 ∧ W64 a1 ∧ W64 a2 := by
  obtain ⟨hl, m, hf⟩ := pc Try.underlying30 h
  rw [c30] at hl
  match cs, hl with
  | [v0, v1, v2], _ =>
    obtain ⟨_, h0⟩ := hf 0 _ rfl 3 0 1 rfl rfl c3
    obtain ⟨_, h1⟩ := hf 1 _ rfl 28 1 2 rfl rfl c28
    obtain ⟨a0, rfl, w0⟩ := ft Try.underlying3 (c := v0) h0
    obtain ⟨a1, a2, e1, w1, w2⟩ := ty28_of (cs := [v1, v2]) h1
    cases e1
    exact ⟨a0, a1, a2, rfl, w0, w1, w2⟩
def q30 (y : Ch) : Prop := W64 y.id ∧ W64 y.lo ∧ W64 y.hi
theorem el30_of {n : Nat} {cs : List Value} {x : DataW H × List MemPlace} (h : DataW.trod enc Try.prog w base sp held n 30 cs = some x) : ∃ y : Ch, cs = eCh y ∧ q30 y := by
  obtain ⟨a0, a1, a2, e, w0, w1, w2⟩ := ty30_of h
  exact ⟨⟨a0, a1, a2⟩, e, ⟨w0, w1, w2⟩⟩
theorem c23 : Try.prog.cellsOf 23 = 1 := by kernel_rfl
theorem c32 : Try.prog.cellsOf 32 = 3 := by kernel_rfl
set_option maxRecDepth 20000 in
theorem ty32_of {n : Nat} {cs : List Value} {x : DataW H × List MemPlace} (h : DataW.trod enc Try.prog w base sp held n 32 cs = some x) : ∃ (a0 : Int) (a1 : Int) (a2 : Int), cs = [.int .i64 a0, .int .i64 a1, .int .i64 a2] ∧ W64 a0 ∧ W64 a1 ∧ W64 a2 := by
  obtain ⟨hl, m, hf⟩ := pc Try.underlying32 h
  rw [c32] at hl
  match cs, hl with
  | [v0, v1, v2], _ =>
    obtain ⟨_, h0⟩ := hf 0 _ rfl 3 0 1 rfl rfl c3
    obtain ⟨_, h1⟩ := hf 1 _ rfl 3 1 1 rfl rfl c3
    obtain ⟨_, h2⟩ := hf 2 _ rfl 3 2 1 rfl rfl c3
    obtain ⟨a0, rfl, w0⟩ := ft Try.underlying3 (c := v0) h0
    obtain ⟨a1, rfl, w1⟩ := ft Try.underlying3 (c := v1) h1
    obtain ⟨a2, rfl, w2⟩ := ft Try.underlying3 (c := v2) h2
    exact ⟨a0, a1, a2, rfl, w0, w1, w2⟩
def q32 (y : Ce) : Prop := W64 y.ch ∧ W64 y.ln ∧ W64 y.wo
theorem el32_of {n : Nat} {cs : List Value} {x : DataW H × List MemPlace} (h : DataW.trod enc Try.prog w base sp held n 32 cs = some x) : ∃ y : Ce, cs = eCe y ∧ q32 y := by
  obtain ⟨a0, a1, a2, e, w0, w1, w2⟩ := ty32_of h
  exact ⟨⟨a0, a1, a2⟩, e, ⟨w0, w1, w2⟩⟩
theorem c25 : Try.prog.cellsOf 25 = 2 := by kernel_rfl
set_option maxRecDepth 20000 in
theorem ty25_of {n : Nat} {cs : List Value} {x : DataW H × List MemPlace} (h : DataW.trod enc Try.prog w base sp held n 25 cs = some x) : ∃ (A0 : Option Addr) (c0 : Nat) (l0 : List Ch) (A1 : Option Addr) (c1 : Nat) (l1 : List Ce), cs = [.slice A0 l0.length c0, .slice A1 l1.length c1] ∧ (bi w A0 (al eCh l0) ∧ l0.length ≤ 9223372036854775807 ∧ l0.length ≤ c0 ∧ ∀ x ∈ l0, q30 x) ∧ (bi w A1 (al eCe l1) ∧ l1.length ≤ 9223372036854775807 ∧ l1.length ≤ c1 ∧ ∀ x ∈ l1, q32 x) := by
  obtain ⟨hl, m, hf⟩ := pc Try.underlying25 h
  rw [c25] at hl
  match cs, hl with
  | [v0, v1], _ =>
    obtain ⟨_, h0⟩ := hf 0 _ rfl 22 0 1 rfl rfl c22
    obtain ⟨_, h1⟩ := hf 1 _ rfl 23 1 1 rfl rfl c23
    obtain ⟨A0, c0, l0, rfl, w0⟩ := row_of (q := q30) (f := eCh) (by decide) eCh_len Try.underlying22 c30 (fun h => el30_of h) (c := v0) h0
    obtain ⟨A1, c1, l1, rfl, w1⟩ := row_of (q := q32) (f := eCe) (by decide) eCe_len Try.underlying23 c32 (fun h => el32_of h) (c := v1) h1
    exact ⟨A0, c0, l0, A1, c1, l1, rfl, w0, w1⟩
theorem c34 : Try.prog.cellsOf 34 = 4 := by kernel_rfl
set_option maxRecDepth 20000 in
theorem ty34_of {n : Nat} {cs : List Value} {x : DataW H × List MemPlace} (h : DataW.trod enc Try.prog w base sp held n 34 cs = some x) : ∃ (a0 : Int) (a1 : Int) (a2 : Int) (a3 : Int), cs = [.int .i64 a0, .int .i64 a1, .int .i64 a2, .int .i64 a3] ∧ W64 a0 ∧ W64 a1 ∧ W64 a2 ∧ W64 a3 := by
  obtain ⟨hl, m, hf⟩ := pc Try.underlying34 h
  rw [c34] at hl
  match cs, hl with
  | [v0, v1, v2, v3], _ =>
    obtain ⟨_, h0⟩ := hf 0 _ rfl 3 0 1 rfl rfl c3
    obtain ⟨_, h1⟩ := hf 1 _ rfl 3 1 1 rfl rfl c3
    obtain ⟨_, h2⟩ := hf 2 _ rfl 3 2 1 rfl rfl c3
    obtain ⟨_, h3⟩ := hf 3 _ rfl 3 3 1 rfl rfl c3
    obtain ⟨a0, rfl, w0⟩ := ft Try.underlying3 (c := v0) h0
    obtain ⟨a1, rfl, w1⟩ := ft Try.underlying3 (c := v1) h1
    obtain ⟨a2, rfl, w2⟩ := ft Try.underlying3 (c := v2) h2
    obtain ⟨a3, rfl, w3⟩ := ft Try.underlying3 (c := v3) h3
    exact ⟨a0, a1, a2, a3, rfl, w0, w1, w2, w3⟩
def q34 (y : Cl) : Prop := W64 y.fam ∧ W64 y.hd ∧ W64 y.fr ∧ W64 y.to
theorem el34_of {n : Nat} {cs : List Value} {x : DataW H × List MemPlace} (h : DataW.trod enc Try.prog w base sp held n 34 cs = some x) : ∃ y : Cl, cs = eCl y ∧ q34 y := by
  obtain ⟨a0, a1, a2, a3, e, w0, w1, w2, w3⟩ := ty34_of h
  exact ⟨⟨a0, a1, a2, a3⟩, e, ⟨w0, w1, w2, w3⟩⟩
theorem c63 : Try.prog.cellsOf 63 = 1 := by kernel_rfl
theorem c49 : Try.prog.cellsOf 49 = 2 := by kernel_rfl
set_option maxRecDepth 20000 in
theorem ty49_of {n : Nat} {cs : List Value} {x : DataW H × List MemPlace} (h : DataW.trod enc Try.prog w base sp held n 49 cs = some x) : ∃ (a0 : Int) (a1 : Int), cs = [.int .i64 a0, .int .i64 a1] ∧ W64 a0 ∧ W64 a1 := by
  obtain ⟨hl, m, hf⟩ := pc Try.underlying49 h
  rw [c49] at hl
  match cs, hl with
  | [v0, v1], _ =>
    obtain ⟨_, h0⟩ := hf 0 _ rfl 3 0 1 rfl rfl c3
    obtain ⟨_, h1⟩ := hf 1 _ rfl 3 1 1 rfl rfl c3
    obtain ⟨a0, rfl, w0⟩ := ft Try.underlying3 (c := v0) h0
    obtain ⟨a1, rfl, w1⟩ := ft Try.underlying3 (c := v1) h1
    exact ⟨a0, a1, rfl, w0, w1⟩
def q49 (y : Dr) : Prop := W64 y.fr ∧ W64 y.to
theorem el49_of {n : Nat} {cs : List Value} {x : DataW H × List MemPlace} (h : DataW.trod enc Try.prog w base sp held n 49 cs = some x) : ∃ y : Dr, cs = eDr y ∧ q49 y := by
  obtain ⟨a0, a1, e, w0, w1⟩ := ty49_of h
  exact ⟨⟨a0, a1⟩, e, ⟨w0, w1⟩⟩
theorem c65 : Try.prog.cellsOf 65 = 2 := by kernel_rfl
set_option maxRecDepth 20000 in
theorem ty65_of {n : Nat} {cs : List Value} {x : DataW H × List MemPlace} (h : DataW.trod enc Try.prog w base sp held n 65 cs = some x) : ∃ (a0 : Int) (a1 : Int), cs = [.int .i64 a0, .int .i64 a1] ∧ W64 a0 ∧ W64 a1 := by
  obtain ⟨hl, m, hf⟩ := pc Try.underlying65 h
  rw [c65] at hl
  match cs, hl with
  | [v0, v1], _ =>
    obtain ⟨_, h0⟩ := hf 0 _ rfl 3 0 1 rfl rfl c3
    obtain ⟨_, h1⟩ := hf 1 _ rfl 3 1 1 rfl rfl c3
    obtain ⟨a0, rfl, w0⟩ := ft Try.underlying3 (c := v0) h0
    obtain ⟨a1, rfl, w1⟩ := ft Try.underlying3 (c := v1) h1
    exact ⟨a0, a1, rfl, w0, w1⟩
theorem c52 : Try.prog.cellsOf 52 = 1 := by kernel_rfl
theorem c67 : Try.prog.cellsOf 67 = 2 := by kernel_rfl
set_option maxRecDepth 20000 in
theorem ty67_of {n : Nat} {cs : List Value} {x : DataW H × List MemPlace} (h : DataW.trod enc Try.prog w base sp held n 67 cs = some x) : ∃ (a0 : Int) (A1 : Option Addr) (c1 : Nat) (l1 : List Int), cs = [.int .i64 a0, .slice A1 l1.length c1] ∧ W64 a0 ∧ (bi w A1 (al dv l1) ∧ l1.length ≤ 9223372036854775807 ∧ l1.length ≤ c1 ∧ ∀ x ∈ l1, W64 x) := by
  obtain ⟨hl, m, hf⟩ := pc Try.underlying67 h
  rw [c67] at hl
  match cs, hl with
  | [v0, v1], _ =>
    obtain ⟨_, h0⟩ := hf 0 _ rfl 3 0 1 rfl rfl c3
    obtain ⟨_, h1⟩ := hf 1 _ rfl 52 1 1 rfl rfl c52
    obtain ⟨a0, rfl, w0⟩ := ft Try.underlying3 (c := v0) h0
    obtain ⟨A1, c1, l1, rfl, w1⟩ := row_of (q := W64) (f := dv) (by decide) cy Try.underlying52 c3 (fun h => intl_of Try.underlying3 h) (c := v1) h1
    exact ⟨a0, A1, c1, l1, rfl, w0, w1⟩
theorem c51 : Try.prog.cellsOf 51 = 2 := by kernel_rfl
set_option maxRecDepth 20000 in
theorem ty51_of {n : Nat} {cs : List Value} {x : DataW H × List MemPlace} (h : DataW.trod enc Try.prog w base sp held n 51 cs = some x) : ∃ (a0 : Int) (a1 : Int), cs = [.int .i64 a0, .int .i64 a1] ∧ W64 a0 ∧ W64 a1 := by
  obtain ⟨hl, m, hf⟩ := pc Try.underlying51 h
  rw [c51] at hl
  match cs, hl with
  | [v0, v1], _ =>
    obtain ⟨_, h0⟩ := hf 0 _ rfl 3 0 1 rfl rfl c3
    obtain ⟨_, h1⟩ := hf 1 _ rfl 3 1 1 rfl rfl c3
    obtain ⟨a0, rfl, w0⟩ := ft Try.underlying3 (c := v0) h0
    obtain ⟨a1, rfl, w1⟩ := ft Try.underlying3 (c := v1) h1
    exact ⟨a0, a1, rfl, w0, w1⟩
theorem c69 : Try.prog.cellsOf 69 = 4 := by kernel_rfl
set_option maxRecDepth 20000 in
theorem ty69_of {n : Nat} {cs : List Value} {x : DataW H × List MemPlace} (h : DataW.trod enc Try.prog w base sp held n 69 cs = some x) : ∃ (a0 : Int) (A1 : Option Addr) (c1 : Nat) (l1 : List Int) (a2 : Int) (a3 : Int), cs = [.int .i64 a0, .slice A1 l1.length c1, .int .i64 a2, .int .i64 a3] ∧ W64 a0 ∧ (bi w A1 (al dv l1) ∧ l1.length ≤ 9223372036854775807 ∧ l1.length ≤ c1 ∧ ∀ x ∈ l1, W64 x) ∧ W64 a2 ∧ W64 a3 := by
  obtain ⟨hl, m, hf⟩ := pc Try.underlying69 h
  rw [c69] at hl
  match cs, hl with
  | [v0, v1, v2, v3], _ =>
    obtain ⟨_, h0⟩ := hf 0 _ rfl 67 0 2 rfl rfl c67
    obtain ⟨_, h1⟩ := hf 1 _ rfl 51 2 2 rfl rfl c51
    obtain ⟨a0, A1, c1, l1, e0, w0, w1⟩ := ty67_of (cs := [v0, v1]) h0
    cases e0
    obtain ⟨a2, a3, e1, w2, w3⟩ := ty51_of (cs := [v2, v3]) h1
    cases e1
    exact ⟨a0, A1, c1, l1, a2, a3, rfl, w0, w1, w2, w3⟩
theorem c71 : Try.prog.cellsOf 71 = 7 := by kernel_rfl
set_option maxRecDepth 20000 in
theorem ty71_of {n : Nat} {cs : List Value} {x : DataW H × List MemPlace} (h : DataW.trod enc Try.prog w base sp held n 71 cs = some x) : ∃ (A0 : Option Addr) (c0 : Nat) (l0 : List Dr) (a1 : Int) (a2 : Int) (a3 : Int) (A4 : Option Addr) (c4 : Nat) (l4 : List Int) (a5 : Int) (a6 : Int), cs = [.slice A0 l0.length c0, .int .i64 a1, .int .i64 a2, .int .i64 a3, .slice A4 l4.length c4, .int .i64 a5, .int .i64 a6] ∧ (bi w A0 (al eDr l0) ∧ l0.length ≤ 9223372036854775807 ∧ l0.length ≤ c0 ∧ ∀ x ∈ l0, q49 x) ∧ W64 a1 ∧ W64 a2 ∧ W64 a3 ∧ (bi w A4 (al dv l4) ∧ l4.length ≤ 9223372036854775807 ∧ l4.length ≤ c4 ∧ ∀ x ∈ l4, W64 x) ∧ W64 a5 ∧ W64 a6 := by
  obtain ⟨hl, m, hf⟩ := pc Try.underlying71 h
  rw [c71] at hl
  match cs, hl with
  | [v0, v1, v2, v3, v4, v5, v6], _ =>
    obtain ⟨_, h0⟩ := hf 0 _ rfl 63 0 1 rfl rfl c63
    obtain ⟨_, h1⟩ := hf 1 _ rfl 65 1 2 rfl rfl c65
    obtain ⟨_, h2⟩ := hf 2 _ rfl 69 3 4 rfl rfl c69
    obtain ⟨A0, c0, l0, rfl, w0⟩ := row_of (q := q49) (f := eDr) (by decide) eDr_len Try.underlying63 c49 (fun h => el49_of h) (c := v0) h0
    obtain ⟨a1, a2, e1, w1, w2⟩ := ty65_of (cs := [v1, v2]) h1
    cases e1
    obtain ⟨a3, A4, c4, l4, a5, a6, e2, w3, w4, w5, w6⟩ := ty69_of (cs := [v3, v4, v5, v6]) h2
    cases e2
    exact ⟨A0, c0, l0, a1, a2, a3, A4, c4, l4, a5, a6, rfl, w0, w1, w2, w3, w4, w5, w6⟩
end
end Go.K
