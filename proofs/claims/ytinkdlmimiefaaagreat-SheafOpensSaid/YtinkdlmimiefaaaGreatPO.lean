import Derived.Test.YtinkdlmimiefaaaGreatPOn
import Derived.Test.YtinkdlmimiefaaaGreatProg
import Derived.Test.YtinkdlmimiefaaaGreatPD
open Go Go.Proofs Go.RowKit Go.ChangeShapes Go.Deep Go.WideShapes
namespace Go.K
set_option linter.unusedVariables false
theorem laid_ : laidOutB Tryz.prog = true := by kernel_rfl
section
variable {H : Type} {enc : TypeId × Value → H} {w : World} {base : Nat} {sp : Nat → Bool} {held : Bool}
theorem c3 : Tryz.prog.cellsOf 3 = 1 := by kernel_rfl
theorem c23 : Tryz.prog.cellsOf 23 = 2 := by kernel_rfl
set_option maxRecDepth 20000 in
theorem ty23_of {n : Nat} {cs : List Value} {x : DataW H × List MemPlace} (h : DataW.trod enc Tryz.prog w base sp held n 23 cs = some x) : ∃ (a0 : Int) (a1 : Int), cs = [.int .i64 a0, .int .i64 a1] ∧ W64 a0 ∧ W64 a1 := by
  obtain ⟨hl, m, hf⟩ := field_of Tryz.underlying23 h
  rw [c23] at hl
  match cs, hl with
  | [v0, v1], _ =>
    obtain ⟨_, h0⟩ := hf 0 _ rfl 3 0 1 rfl rfl c3
    obtain ⟨_, h1⟩ := hf 1 _ rfl 3 1 1 rfl rfl c3
    obtain ⟨a0, rfl, w0⟩ := ft Tryz.underlying3 (c := v0) h0
    obtain ⟨a1, rfl, w1⟩ := ft Tryz.underlying3 (c := v1) h1
    exact ⟨a0, a1, rfl, w0, w1⟩
theorem c24 : Tryz.prog.cellsOf 24 = 1 := by kernel_rfl
theorem c30 : Tryz.prog.cellsOf 30 = 6 := by kernel_rfl
set_option maxRecDepth 20000 in
theorem ty30_of {n : Nat} {cs : List Value} {x : DataW H × List MemPlace} (h : DataW.trod enc Tryz.prog w base sp held n 30 cs = some x) : ∃ (a0 : Int) (a1 : Int) (a2 : Int) (a3 : Int) (a4 : Int) (a5 : Int), cs = [.int .i64 a0, .int .i64 a1, .int .i64 a2, .int .i64 a3, .int .i64 a4, .int .i64 a5] ∧ W64 a0 ∧ W64 a1 ∧ W64 a2 ∧ W64 a3 ∧ W64 a4 ∧ W64 a5 := by
  obtain ⟨hl, m, hf⟩ := field_of Tryz.underlying30 h
  rw [c30] at hl
  match cs, hl with
  | [v0, v1, v2, v3, v4, v5], _ =>
    obtain ⟨_, h0⟩ := hf 0 _ rfl 3 0 1 rfl rfl c3
    obtain ⟨_, h1⟩ := hf 1 _ rfl 3 1 1 rfl rfl c3
    obtain ⟨_, h2⟩ := hf 2 _ rfl 23 2 2 rfl rfl c23
    obtain ⟨_, h3⟩ := hf 3 _ rfl 3 4 1 rfl rfl c3
    obtain ⟨_, h4⟩ := hf 4 _ rfl 3 5 1 rfl rfl c3
    obtain ⟨a0, rfl, w0⟩ := ft Tryz.underlying3 (c := v0) h0
    obtain ⟨a1, rfl, w1⟩ := ft Tryz.underlying3 (c := v1) h1
    obtain ⟨a2, a3, e2, w2, w3⟩ := ty23_of (cs := [v2, v3]) h2
    cases e2
    obtain ⟨a4, rfl, w4⟩ := ft Tryz.underlying3 (c := v4) h3
    obtain ⟨a5, rfl, w5⟩ := ft Tryz.underlying3 (c := v5) h4
    exact ⟨a0, a1, a2, a3, a4, a5, rfl, w0, w1, w2, w3, w4, w5⟩
def q30 (y : Ld) : Prop := W64 y.src ∧ W64 y.hr ∧ W64 y.lo ∧ W64 y.hi ∧ W64 y.kn ∧ W64 y.un
theorem el30_of {n : Nat} {cs : List Value} {x : DataW H × List MemPlace} (h : DataW.trod enc Tryz.prog w base sp held n 30 cs = some x) : ∃ y : Ld, cs = eLd y ∧ q30 y := by
  obtain ⟨a0, a1, a2, a3, a4, a5, e, w0, w1, w2, w3, w4, w5⟩ := ty30_of h
  exact ⟨⟨a0, a1, a2, a3, a4, a5⟩, e, ⟨w0, w1, w2, w3, w4, w5⟩⟩
theorem c25 : Tryz.prog.cellsOf 25 = 1 := by kernel_rfl
theorem c31 : Tryz.prog.cellsOf 31 = 6 := by kernel_rfl
set_option maxRecDepth 20000 in
theorem ty31_of {n : Nat} {cs : List Value} {x : DataW H × List MemPlace} (h : DataW.trod enc Tryz.prog w base sp held n 31 cs = some x) : ∃ (a0 : Int) (a1 : Int) (a2 : Int) (a3 : Int) (a4 : Int) (a5 : Int), cs = [.int .i64 a0, .int .i64 a1, .int .i64 a2, .int .i64 a3, .int .i64 a4, .int .i64 a5] ∧ W64 a0 ∧ W64 a1 ∧ W64 a2 ∧ W64 a3 ∧ W64 a4 ∧ W64 a5 := by
  obtain ⟨hl, m, hf⟩ := field_of Tryz.underlying31 h
  rw [c31] at hl
  match cs, hl with
  | [v0, v1, v2, v3, v4, v5], _ =>
    obtain ⟨_, h0⟩ := hf 0 _ rfl 3 0 1 rfl rfl c3
    obtain ⟨_, h1⟩ := hf 1 _ rfl 3 1 1 rfl rfl c3
    obtain ⟨_, h2⟩ := hf 2 _ rfl 23 2 2 rfl rfl c23
    obtain ⟨_, h3⟩ := hf 3 _ rfl 3 4 1 rfl rfl c3
    obtain ⟨_, h4⟩ := hf 4 _ rfl 3 5 1 rfl rfl c3
    obtain ⟨a0, rfl, w0⟩ := ft Tryz.underlying3 (c := v0) h0
    obtain ⟨a1, rfl, w1⟩ := ft Tryz.underlying3 (c := v1) h1
    obtain ⟨a2, a3, e2, w2, w3⟩ := ty23_of (cs := [v2, v3]) h2
    cases e2
    obtain ⟨a4, rfl, w4⟩ := ft Tryz.underlying3 (c := v4) h3
    obtain ⟨a5, rfl, w5⟩ := ft Tryz.underlying3 (c := v5) h4
    exact ⟨a0, a1, a2, a3, a4, a5, rfl, w0, w1, w2, w3, w4, w5⟩
def q31 (y : Ld) : Prop := W64 y.src ∧ W64 y.hr ∧ W64 y.lo ∧ W64 y.hi ∧ W64 y.kn ∧ W64 y.un
theorem el31_of {n : Nat} {cs : List Value} {x : DataW H × List MemPlace} (h : DataW.trod enc Tryz.prog w base sp held n 31 cs = some x) : ∃ y : Ld, cs = eLd y ∧ q31 y := by
  obtain ⟨a0, a1, a2, a3, a4, a5, e, w0, w1, w2, w3, w4, w5⟩ := ty31_of h
  exact ⟨⟨a0, a1, a2, a3, a4, a5⟩, e, ⟨w0, w1, w2, w3, w4, w5⟩⟩
theorem c26 : Tryz.prog.cellsOf 26 = 1 := by kernel_rfl
theorem c33 : Tryz.prog.cellsOf 33 = 6 := by kernel_rfl
set_option maxRecDepth 20000 in
theorem ty33_of {n : Nat} {cs : List Value} {x : DataW H × List MemPlace} (h : DataW.trod enc Tryz.prog w base sp held n 33 cs = some x) : ∃ (a0 : Int) (a1 : Int) (a2 : Int) (a3 : Int) (a4 : Int) (a5 : Int), cs = [.int .i64 a0, .int .i64 a1, .int .i64 a2, .int .i64 a3, .int .i64 a4, .int .i64 a5] ∧ W64 a0 ∧ W64 a1 ∧ W64 a2 ∧ W64 a3 ∧ W64 a4 ∧ W64 a5 := by
  obtain ⟨hl, m, hf⟩ := field_of Tryz.underlying33 h
  rw [c33] at hl
  match cs, hl with
  | [v0, v1, v2, v3, v4, v5], _ =>
    obtain ⟨_, h0⟩ := hf 0 _ rfl 3 0 1 rfl rfl c3
    obtain ⟨_, h1⟩ := hf 1 _ rfl 3 1 1 rfl rfl c3
    obtain ⟨_, h2⟩ := hf 2 _ rfl 3 2 1 rfl rfl c3
    obtain ⟨_, h3⟩ := hf 3 _ rfl 3 3 1 rfl rfl c3
    obtain ⟨_, h4⟩ := hf 4 _ rfl 3 4 1 rfl rfl c3
    obtain ⟨_, h5⟩ := hf 5 _ rfl 3 5 1 rfl rfl c3
    obtain ⟨a0, rfl, w0⟩ := ft Tryz.underlying3 (c := v0) h0
    obtain ⟨a1, rfl, w1⟩ := ft Tryz.underlying3 (c := v1) h1
    obtain ⟨a2, rfl, w2⟩ := ft Tryz.underlying3 (c := v2) h2
    obtain ⟨a3, rfl, w3⟩ := ft Tryz.underlying3 (c := v3) h3
    obtain ⟨a4, rfl, w4⟩ := ft Tryz.underlying3 (c := v4) h4
    obtain ⟨a5, rfl, w5⟩ := ft Tryz.underlying3 (c := v5) h5
    exact ⟨a0, a1, a2, a3, a4, a5, rfl, w0, w1, w2, w3, w4, w5⟩
def q33 (y : Sp) : Prop := W64 y.src ∧ W64 y.kd ∧ W64 y.fr ∧ W64 y.to ∧ W64 y.kn ∧ W64 y.un
theorem el33_of {n : Nat} {cs : List Value} {x : DataW H × List MemPlace} (h : DataW.trod enc Tryz.prog w base sp held n 33 cs = some x) : ∃ y : Sp, cs = eSp y ∧ q33 y := by
  obtain ⟨a0, a1, a2, a3, a4, a5, e, w0, w1, w2, w3, w4, w5⟩ := ty33_of h
  exact ⟨⟨a0, a1, a2, a3, a4, a5⟩, e, ⟨w0, w1, w2, w3, w4, w5⟩⟩
theorem c28 : Tryz.prog.cellsOf 28 = 6 := by kernel_rfl
set_option maxRecDepth 20000 in
theorem ty28_of {n : Nat} {cs : List Value} {x : DataW H × List MemPlace} (h : DataW.trod enc Tryz.prog w base sp held n 28 cs = some x) : ∃ (a0 : Int) (a1 : Int) (A2 : Option Addr) (c2 : Nat) (l2 : List Ld) (A3 : Option Addr) (c3 : Nat) (l3 : List Ld) (A4 : Option Addr) (c4 : Nat) (l4 : List Sp) (a5 : Int), cs = [.int .i64 a0, .int .i64 a1, .slice A2 l2.length c2, .slice A3 l3.length c3, .slice A4 l4.length c4, .int .i64 a5] ∧ W64 a0 ∧ W64 a1 ∧ (bi w A2 (al eLd l2) ∧ l2.length ≤ 9223372036854775807 ∧ l2.length ≤ c2 ∧ ∀ x ∈ l2, q30 x) ∧ (bi w A3 (al eLd l3) ∧ l3.length ≤ 9223372036854775807 ∧ l3.length ≤ c3 ∧ ∀ x ∈ l3, q31 x) ∧ (bi w A4 (al eSp l4) ∧ l4.length ≤ 9223372036854775807 ∧ l4.length ≤ c4 ∧ ∀ x ∈ l4, q33 x) ∧ W64 a5 := by
  obtain ⟨hl, m, hf⟩ := field_of Tryz.underlying28 h
  rw [c28] at hl
  match cs, hl with
  | [v0, v1, v2, v3, v4, v5], _ =>
    obtain ⟨_, h0⟩ := hf 0 _ rfl 23 0 2 rfl rfl c23
    obtain ⟨_, h1⟩ := hf 1 _ rfl 24 2 1 rfl rfl c24
    obtain ⟨_, h2⟩ := hf 2 _ rfl 25 3 1 rfl rfl c25
    obtain ⟨_, h3⟩ := hf 3 _ rfl 26 4 1 rfl rfl c26
    obtain ⟨_, h4⟩ := hf 4 _ rfl 3 5 1 rfl rfl c3
    obtain ⟨a0, a1, e0, w0, w1⟩ := ty23_of (cs := [v0, v1]) h0
    cases e0
    obtain ⟨A2, c2, l2, rfl, w2⟩ := row_of (q := q30) (f := eLd) (by decide) bf Tryz.underlying24 c30 (fun h => el30_of h) (c := v2) h1
    obtain ⟨A3, c3, l3, rfl, w3⟩ := row_of (q := q31) (f := eLd) (by decide) bf Tryz.underlying25 c31 (fun h => el31_of h) (c := v3) h2
    obtain ⟨A4, c4, l4, rfl, w4⟩ := row_of (q := q33) (f := eSp) (by decide) gb Tryz.underlying26 c33 (fun h => el33_of h) (c := v4) h3
    obtain ⟨a5, rfl, w5⟩ := ft Tryz.underlying3 (c := v5) h4
    exact ⟨a0, a1, A2, c2, l2, A3, c3, l3, A4, c4, l4, a5, rfl, w0, w1, w2, w3, w4, w5⟩
theorem c41 : Tryz.prog.cellsOf 41 = 1 := by kernel_rfl
theorem c57 : Tryz.prog.cellsOf 57 = 2 := by kernel_rfl
set_option maxRecDepth 20000 in
theorem ty57_of {n : Nat} {cs : List Value} {x : DataW H × List MemPlace} (h : DataW.trod enc Tryz.prog w base sp held n 57 cs = some x) : ∃ (a0 : Int) (A1 : Option Addr) (c1 : Nat) (l1 : List Int), cs = [.int .i64 a0, .slice A1 l1.length c1] ∧ W64 a0 ∧ (bi w A1 (al dv l1) ∧ l1.length ≤ 9223372036854775807 ∧ l1.length ≤ c1 ∧ ∀ x ∈ l1, W64 x) := by
  obtain ⟨hl, m, hf⟩ := field_of Tryz.underlying57 h
  rw [c57] at hl
  match cs, hl with
  | [v0, v1], _ =>
    obtain ⟨_, h0⟩ := hf 0 _ rfl 3 0 1 rfl rfl c3
    obtain ⟨_, h1⟩ := hf 1 _ rfl 41 1 1 rfl rfl c41
    obtain ⟨a0, rfl, w0⟩ := ft Tryz.underlying3 (c := v0) h0
    obtain ⟨A1, c1, l1, rfl, w1⟩ := row_of (q := W64) (f := dv) (by decide) cy Tryz.underlying41 c3 (fun h => intl_of Tryz.underlying3 h) (c := v1) h1
    exact ⟨a0, A1, c1, l1, rfl, w0, w1⟩
theorem c59 : Tryz.prog.cellsOf 59 = 5 := by kernel_rfl
set_option maxRecDepth 20000 in
theorem ty59_of {n : Nat} {cs : List Value} {x : DataW H × List MemPlace} (h : DataW.trod enc Tryz.prog w base sp held n 59 cs = some x) : ∃ (a0 : Int) (A1 : Option Addr) (c1 : Nat) (l1 : List Int) (a2 : Int) (a3 : Int) (a4 : Int), cs = [.int .i64 a0, .slice A1 l1.length c1, .int .i64 a2, .int .i64 a3, .int .i64 a4] ∧ W64 a0 ∧ (bi w A1 (al dv l1) ∧ l1.length ≤ 9223372036854775807 ∧ l1.length ≤ c1 ∧ ∀ x ∈ l1, W64 x) ∧ W64 a2 ∧ W64 a3 ∧ W64 a4 := by
  obtain ⟨hl, m, hf⟩ := field_of Tryz.underlying59 h
  rw [c59] at hl
  match cs, hl with
  | [v0, v1, v2, v3, v4], _ =>
    obtain ⟨_, h0⟩ := hf 0 _ rfl 57 0 2 rfl rfl c57
    obtain ⟨_, h1⟩ := hf 1 _ rfl 3 2 1 rfl rfl c3
    obtain ⟨_, h2⟩ := hf 2 _ rfl 3 3 1 rfl rfl c3
    obtain ⟨_, h3⟩ := hf 3 _ rfl 3 4 1 rfl rfl c3
    obtain ⟨a0, A1, c1, l1, e0, w0, w1⟩ := ty57_of (cs := [v0, v1]) h0
    cases e0
    obtain ⟨a2, rfl, w2⟩ := ft Tryz.underlying3 (c := v2) h1
    obtain ⟨a3, rfl, w3⟩ := ft Tryz.underlying3 (c := v3) h2
    obtain ⟨a4, rfl, w4⟩ := ft Tryz.underlying3 (c := v4) h3
    exact ⟨a0, A1, c1, l1, a2, a3, a4, rfl, w0, w1, w2, w3, w4⟩
end
end Go.K
