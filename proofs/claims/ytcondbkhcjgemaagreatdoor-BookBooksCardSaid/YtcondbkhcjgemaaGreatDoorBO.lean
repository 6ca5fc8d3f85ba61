import Derived.Test.YtcondbkhcjgemaaGreatDoorBKK3
import Derived.Test.YtcondbkhcjgemaaGreatDoorProg
import Derived.Test.YtcondbkhcjgemaaGreatDoorBD
import Derived.SizedLaws
open Go Go.Proofs Go.RowKit Go.ChangeShapes Go.Deep Go.WideShapes
namespace Go.K
set_option linter.unusedVariables false
theorem laid_ : laidOutB Tryz.prog = true := by kernel_rfl
def SL (s : Str) : Prop := s.length ≤ 9223372036854775807
theorem strb_of {P : Program} {H : Type} {enc : TypeId × Value → H} {w : World} {base : Nat} {sp : Nat → Bool} {held : Bool} {ti n : Nat} {c : Value} {x : DataW H × List MemPlace} (ht : P.underlying ti = some .string) (h : DataW.trod enc P w base sp held n ti [c] = some x) : ∃ s : Str, c = .string (bts s) ∧ SL s := by
  obtain ⟨s, e, _, hw⟩ := DataW.trod_string ht h
  injection e with e1 _
  refine ⟨s.data.toList, e1, ?_⟩
  unfold maxLen at hw
  show s.data.toList.length ≤ _
  have : s.data.toList.length = s.size := rfl
  omega
section
variable {H : Type} {enc : TypeId × Value → H} {w : World} {base : Nat} {sp : Nat → Bool} {held : Bool}
theorem c45 : Tryz.prog.cellsOf 45 = 1 := by kernel_rfl
theorem c3 : Tryz.prog.cellsOf 3 = 1 := by kernel_rfl
theorem c23 : Tryz.prog.cellsOf 23 = 2 := by kernel_rfl
set_option maxRecDepth 20000 in
theorem ty23_of {n : Nat} {cs : List Value} {x : DataW H × List MemPlace} (h : DataW.trod enc Tryz.prog w base sp held n 23 cs = some x) : ∃ (a0 : Int) (a1 : Int), cs = [.int .i64 a0, .int .i64 a1] ∧ W64 a0 ∧ W64 a1 := by
  obtain ⟨hl, m, hf⟩ := field_of Tryz.underlying23 h
  rw [c23] at hl
  match cs, hl with
  | [v0, v1], _ =>
    obtain ⟨_, h0⟩ := hf 0 _ rfl 3 0 1 rfl rfl c3
    obtain ⟨_, h1⟩ := hf 1 _ rfl 3 1 1 rfl rfl c3
    obtain ⟨a0, rfl, w0⟩ := intb_of Tryz.underlying3 (c := v0) h0
    obtain ⟨a1, rfl, w1⟩ := intb_of Tryz.underlying3 (c := v1) h1
    exact ⟨a0, a1, rfl, w0, w1⟩
theorem c9 : Tryz.prog.cellsOf 9 = 1 := by kernel_rfl
theorem c25 : Tryz.prog.cellsOf 25 = 8 := by kernel_rfl
set_option maxRecDepth 20000 in
theorem ty25_of {n : Nat} {cs : List Value} {x : DataW H × List MemPlace} (h : DataW.trod enc Tryz.prog w base sp held n 25 cs = some x) : ∃ (a0 : Int) (a1 : Int) (a2 : Int) (a3 : Int) (a4 : Int) (a5 : Int) (a6 : Int) (a7 : Str), cs = [.int .i64 a0, .int .i64 a1, .int .i64 a2, .int .i64 a3, .int .i64 a4, .int .i64 a5, .int .i64 a6, .string (bts a7)] ∧ W64 a0 ∧ W64 a1 ∧ W64 a2 ∧ W64 a3 ∧ W64 a4 ∧ W64 a5 ∧ W64 a6 ∧ SL a7 := by
  obtain ⟨hl, m, hf⟩ := field_of Tryz.underlying25 h
  rw [c25] at hl
  match cs, hl with
  | [v0, v1, v2, v3, v4, v5, v6, v7], _ =>
    obtain ⟨_, h0⟩ := hf 0 _ rfl 23 0 2 rfl rfl c23
    obtain ⟨_, h1⟩ := hf 1 _ rfl 3 2 1 rfl rfl c3
    obtain ⟨_, h2⟩ := hf 2 _ rfl 3 3 1 rfl rfl c3
    obtain ⟨_, h3⟩ := hf 3 _ rfl 3 4 1 rfl rfl c3
    obtain ⟨_, h4⟩ := hf 4 _ rfl 23 5 2 rfl rfl c23
    obtain ⟨_, h5⟩ := hf 5 _ rfl 9 7 1 rfl rfl c9
    obtain ⟨a0, a1, e0, w0, w1⟩ := ty23_of (cs := [v0, v1]) h0
    cases e0
    obtain ⟨a2, rfl, w2⟩ := intb_of Tryz.underlying3 (c := v2) h1
    obtain ⟨a3, rfl, w3⟩ := intb_of Tryz.underlying3 (c := v3) h2
    obtain ⟨a4, rfl, w4⟩ := intb_of Tryz.underlying3 (c := v4) h3
    obtain ⟨a5, a6, e4, w5, w6⟩ := ty23_of (cs := [v5, v6]) h4
    cases e4
    obtain ⟨a7, rfl, w7⟩ := strb_of Tryz.underlying9 (c := v7) h5
    exact ⟨a0, a1, a2, a3, a4, a5, a6, a7, rfl, w0, w1, w2, w3, w4, w5, w6, w7⟩
def q25 (y : Rc) : Prop := W64 y.p ∧ W64 y.n ∧ W64 y.k ∧ W64 y.d ∧ W64 y.kn ∧ W64 y.op ∧ W64 y.on ∧ SL y.t
theorem el25_of {n : Nat} {cs : List Value} {x : DataW H × List MemPlace} (h : DataW.trod enc Tryz.prog w base sp held n 25 cs = some x) : ∃ y : Rc, cs = eRc y ∧ q25 y := by
  obtain ⟨a0, a1, a2, a3, a4, a5, a6, a7, e, w0, w1, w2, w3, w4, w5, w6, w7⟩ := ty25_of h
  exact ⟨⟨a0, a1, a2, a3, a4, a5, a6, a7⟩, e, ⟨w0, w1, w2, w3, w4, w5, w6, w7⟩⟩
theorem c47 : Tryz.prog.cellsOf 47 = 1 := by kernel_rfl
set_option maxRecDepth 20000 in
theorem ty47_of {n : Nat} {cs : List Value} {x : DataW H × List MemPlace} (h : DataW.trod enc Tryz.prog w base sp held n 47 cs = some x) : ∃ (A0 : Option Addr) (c0 : Nat) (l0 : List Rc), cs = [.slice A0 l0.length c0] ∧ (bi w A0 (al eRc l0) ∧ l0.length ≤ 9223372036854775807 ∧ l0.length ≤ c0 ∧ ∀ x ∈ l0, q25 x) := by
  obtain ⟨hl, m, hf⟩ := field_of Tryz.underlying47 h
  rw [c47] at hl
  match cs, hl with
  | [v0], _ =>
    obtain ⟨_, h0⟩ := hf 0 _ rfl 45 0 1 rfl rfl c45
    obtain ⟨A0, c0, l0, rfl, w0⟩ := row_of (q := q25) (f := eRc) (by decide) bx Tryz.underlying45 c25 (fun h => el25_of h) (c := v0) h0
    exact ⟨A0, c0, l0, rfl, w0⟩
theorem c49 : Tryz.prog.cellsOf 49 = 9 := by kernel_rfl
set_option maxRecDepth 20000 in
theorem ty49_of {n : Nat} {cs : List Value} {x : DataW H × List MemPlace} (h : DataW.trod enc Tryz.prog w base sp held n 49 cs = some x) : ∃ (A0 : Option Addr) (c0 : Nat) (l0 : List Rc) (a1 : Int) (a2 : Int) (a3 : Int) (a4 : Int) (a5 : Int) (a6 : Int) (a7 : Int) (a8 : Str), cs = [.slice A0 l0.length c0, .int .i64 a1, .int .i64 a2, .int .i64 a3, .int .i64 a4, .int .i64 a5, .int .i64 a6, .int .i64 a7, .string (bts a8)] ∧ (bi w A0 (al eRc l0) ∧ l0.length ≤ 9223372036854775807 ∧ l0.length ≤ c0 ∧ ∀ x ∈ l0, q25 x) ∧ W64 a1 ∧ W64 a2 ∧ W64 a3 ∧ W64 a4 ∧ W64 a5 ∧ W64 a6 ∧ W64 a7 ∧ SL a8 := by
  obtain ⟨hl, m, hf⟩ := field_of Tryz.underlying49 h
  rw [c49] at hl
  match cs, hl with
  | [v0, v1, v2, v3, v4, v5, v6, v7, v8], _ =>
    obtain ⟨_, h0⟩ := hf 0 _ rfl 45 0 1 rfl rfl c45
    obtain ⟨_, h1⟩ := hf 1 _ rfl 25 1 8 rfl rfl c25
    obtain ⟨A0, c0, l0, rfl, w0⟩ := row_of (q := q25) (f := eRc) (by decide) bx Tryz.underlying45 c25 (fun h => el25_of h) (c := v0) h0
    obtain ⟨a1, a2, a3, a4, a5, a6, a7, a8, e1, w1, w2, w3, w4, w5, w6, w7, w8⟩ := ty25_of (cs := [v1, v2, v3, v4, v5, v6, v7, v8]) h1
    cases e1
    exact ⟨A0, c0, l0, a1, a2, a3, a4, a5, a6, a7, a8, rfl, w0, w1, w2, w3, w4, w5, w6, w7, w8⟩
theorem c37 : Tryz.prog.cellsOf 37 = 8 := by kernel_rfl
end
end Go.K
