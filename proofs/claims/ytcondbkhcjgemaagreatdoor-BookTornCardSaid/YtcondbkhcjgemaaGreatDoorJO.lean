import Derived.Test.YtcondbkhcjgemaaGreatDoorJKK3
import Derived.Test.YtcondbkhcjgemaaGreatDoorProg
import Derived.Test.YtcondbkhcjgemaaGreatDoorJD
import Derived.SizedLaws
open Go Go.Proofs Go.RowKit Go.ChangeShapes Go.Deep Go.WideShapes
namespace Go.K
set_option linter.unusedVariables false
theorem laid_ : laidOutB Tryz.prog = true := by kernel_rfl
def SL (s : Str) : Prop := s.length ≤ 9223372036854775807
theorem strb_of {P : Program} {H : Type} {enc : TypeId × Value → H} {w : World} {base : Nat} {sp : Nat → Bool} {held : Bool} {ti n : Nat} {c : Value} {x : DataW H × List MemPlace} (ht : P.underlying ti = some .string) (h : DataW.trod enc P w base sp held n ti [c] = some x) : ∃ s : Str, c = .string (bts s) ∧ SL s := by
  obtain ⟨s, e, _, hw⟩ := DataW.trod_string ht h
  injection e with e1 _
  refine ⟨s.data.toList, e1, ?_⟩
  unfold maxLen at hw
  show s.data.toList.length ≤ _
  have : s.data.toList.length = s.size := rfl
  omega
def WtB (P : Program) {H : Type} (t : TypeId) (d : DataW H) : Prop := ∀ n ∈ DataW.weights P t d, n ≤ 140737488351232
def SZ (s : Str) : Prop := s.length ≤ 140737488351232
section
variable {P : Program} {H : Type} {enc : TypeId × Value → H} {w : World} {base : Nat} {sp : Nat → Bool} {held : Bool}
end
section
variable {H : Type} {enc : TypeId × Value → H} {w : World} {base : Nat} {sp : Nat → Bool} {held : Bool}
theorem c3 : Tryz.prog.cellsOf 3 = 1 := by kernel_rfl
theorem c9 : Tryz.prog.cellsOf 9 = 1 := by kernel_rfl
theorem c64 : Tryz.prog.cellsOf 64 = 1 := by kernel_rfl
theorem c117 : Tryz.prog.cellsOf 117 = 5 := by kernel_rfl
set_option maxRecDepth 20000 in
theorem ty117_of {n : Nat} {cs : List Value} {x : DataW H × List MemPlace} (h : DataW.trod enc Tryz.prog w base sp held n 117 cs = some x) : ∃ (a0 : Int) (a1 : Int) (a2 : Int) (a3 : Str) (A4 : Option Addr) (c4 : Nat) (l4 : List Int), cs = [.int .i64 a0, .int .i64 a1, .int .i64 a2, .string (bts a3), .slice A4 l4.length c4] ∧ W64 a0 ∧ W64 a1 ∧ W64 a2 ∧ SL a3 ∧ (bi w A4 (al eInt l4) ∧ l4.length ≤ 9223372036854775807 ∧ l4.length ≤ c4 ∧ ∀ x ∈ l4, W64 x) := by
  obtain ⟨hl, m, hf⟩ := field_of Tryz.underlying117 h
  rw [c117] at hl
  match cs, hl with
  | [v0, v1, v2, v3, v4], _ =>
    obtain ⟨_, h0⟩ := hf 0 _ rfl 3 0 1 rfl rfl c3
    obtain ⟨_, h1⟩ := hf 1 _ rfl 3 1 1 rfl rfl c3
    obtain ⟨_, h2⟩ := hf 2 _ rfl 3 2 1 rfl rfl c3
    obtain ⟨_, h3⟩ := hf 3 _ rfl 9 3 1 rfl rfl c9
    obtain ⟨_, h4⟩ := hf 4 _ rfl 64 4 1 rfl rfl c64
    obtain ⟨a0, rfl, w0⟩ := intb_of Tryz.underlying3 (c := v0) h0
    obtain ⟨a1, rfl, w1⟩ := intb_of Tryz.underlying3 (c := v1) h1
    obtain ⟨a2, rfl, w2⟩ := intb_of Tryz.underlying3 (c := v2) h2
    obtain ⟨a3, rfl, w3⟩ := strb_of Tryz.underlying9 (c := v3) h3
    obtain ⟨A4, c4, l4, rfl, w4⟩ := row_of (q := W64) (f := eInt) (by decide) eInt_len Tryz.underlying64 c3 (fun h => intl_of Tryz.underlying3 h) (c := v4) h4
    exact ⟨a0, a1, a2, a3, A4, c4, l4, rfl, w0, w1, w2, w3, w4⟩
def q117 (w : World) (y : Dsp) : Prop := okDsp w y ∧ SL y.p.t
theorem el117_of {n : Nat} {cs : List Value} {x : DataW H × List MemPlace} (h : DataW.trod enc Tryz.prog w base sp held n 117 cs = some x) : ∃ y : Dsp, cs = eDsp y ∧ q117 w y := by
  obtain ⟨a0, a1, a2, a3, A4, c4, l4, e, w0, w1, w2, w3, w4⟩ := ty117_of h
  exact ⟨⟨⟨a0, a1, a2, a3, l4⟩, A4, c4⟩, e, ⟨⟨w4.1, w4.2.1, w4.2.2.1⟩, w3⟩⟩
def q35z (y : Sp3) : Prop := W64 y.no ∧ W64 y.sz ∧ SZ y.t
def q25z (y : Rc) : Prop := W64 y.p ∧ W64 y.n ∧ W64 y.k ∧ W64 y.d ∧ W64 y.kn ∧ W64 y.op ∧ W64 y.on ∧ SZ y.t
def q25 (y : Rc) : Prop := W64 y.p ∧ W64 y.n ∧ W64 y.k ∧ W64 y.d ∧ W64 y.kn ∧ W64 y.op ∧ W64 y.on ∧ SL y.t
theorem c37 : Tryz.prog.cellsOf 37 = 8 := by kernel_rfl
end
end Go.K
