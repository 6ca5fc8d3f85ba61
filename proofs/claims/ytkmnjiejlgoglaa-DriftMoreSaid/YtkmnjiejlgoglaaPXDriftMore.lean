/- DriftMore answers true at every input, and leaves what it reads as it was. No condition. By an AI agent; no person has read it. -/
import Derived.Test.YtkmnjiejlgoglaaRows
import Derived.Test.YtkmnjiejlgoglaaPWf
import Derived.Test.YtkmnjiejlgoglaaPO
import Derived.Test.YtkmnjiejlgoglaaPY9
namespace Go.Proofs.Ytkmnjiejlgoglaa.lawDriftMore
open Go Go.ChangeShapes Go.WideShapes Go.RowKit Go.K
set_option linter.unusedVariables false
theorem own : ownKnob Try.prog.godebug = none := by kernel_rfl
set_option maxRecDepth 100000 in
set_option maxHeartbeats 1000000 in
theorem lifted (os : Os) (started : os.Started) (H : Type) (enc : TypeId × Value → H) :
    ReturnsInHanded {} Try.checked os 9 .any (Rows.driftMoreSpec.pre6 enc Try.prog Try.f9 Rows.driftMoreRow.domain false) (Rows.driftMoreSpec.post enc Try.prog Try.f9 false true false false) := by
  refine returnsInHanded_of_change (C := Try.checked) own started (by kernel_rfl) Try.func9
    (ChangeSpec.witness6 (enc := enc) (C := Try.checked) false ⟨#[], #[.agg #[.slice none 0 0, .slice none 0 0, .slice none 0 0], .agg #[.int .i64 0, .int .i64 0]], []⟩ 8 (by kernel_rfl) (by kernel_rfl) (by kernel_rfl) (by kernel_rfl)) ?_
  intro W base args ds gs before hval0 hW hcnd _
  have hval : ∀ (j : Nat) t v, Try.f9.params[j]? = some t → args[j]? = some v → Value.okWide Try.prog W .any base t v := hval0
  have hW' := hW
  obtain ⟨p, q, hA0, hV, rfl, hfz, hnd⟩ := hW
  have hA : DataW.TrodAll enc Try.prog W 0 (fun _ => true) true Try.f9.params.toList args.toList ds p := hA0
  rw [Try.params9] at hA hval
  obtain ⟨v0, vs0, d0, ds0, p0, q0, hargs, rfl, rfl, h0, r0⟩ := trodAll_cons hA
  obtain ⟨v1, vs1, d1, ds1, p1, q1, rfl, rfl, rfl, h1, r1⟩ := trodAll_cons r0
  obtain ⟨rfl, rfl, rfl⟩ := trodAll_nil r1
  obtain rfl : args = #[v0, v1] := by cases args; simp_all
  obtain ⟨rfl, rfl⟩ := trodVars_none hV
  obtain ⟨cs0, rfl, _⟩ := Go.WideShapes.okWide_struct Try.underlying96 (hval 0 96 _ rfl rfl)
  obtain ⟨fu0, h0⟩ := h0
  have hcs0 : (Value.agg cs0).cells.toList = cs0.toList := rfl
  rw [hcs0] at h0
  obtain ⟨cs0⟩ := cs0
  obtain ⟨Ap0_0, cp0_0, lp0_0, Ap0_1, cp0_1, lp0_1, Ap0_2, cp0_2, lp0_2, e0, ⟨hCp0_0, hMp0_0, hKp0_0, wp0_0⟩, ⟨hCp0_1, hMp0_1, hKp0_1, wp0_1⟩, ⟨hCp0_2, hMp0_2, hKp0_2, wp0_2⟩⟩ := ty96_of h0
  have e0 : cs0 = _ := e0
  subst e0
  obtain ⟨cs1, rfl⟩ : ∃ cs, v1 = .agg cs := by
    have hv := hval 1 101 _ rfl rfl
    simp only [Value.okWide, Try.underlying101] at hv
    exact ⟨hv.choose, hv.choose_spec.1⟩
  obtain ⟨fu1, h1⟩ := h1
  have hcs1 : (Value.agg cs1).cells.toList = cs1.toList := rfl
  rw [hcs1] at h1
  obtain ⟨cs1⟩ := cs1
  obtain ⟨p1_0, p1_1, e1, wp1_0, wp1_1⟩ := ty101_of h1
  have e1 : cs1 = _ := e1
  subst e1
  clear hA0 hval0
  obtain ⟨NN, hF⟩ : ∃ NN, F9 NN lp0_0 lp0_1 lp0_2 (⟨p1_0, p1_1⟩) = some true := ⟨_, more4 _ _ _ _⟩
  refine Calls.mono (L9 W Ap0_0 cp0_0 lp0_0 Ap0_1 cp0_1 lp0_1 Ap0_2 cp0_2 lp0_2 (⟨p1_0, p1_1⟩) hCp0_0 hMp0_0 hKp0_0 hCp0_1 hMp0_1 hKp0_1 hCp0_2 hMp0_2 hKp0_2 NN true hF) fun e W2 ⟨v, he, hv, hb⟩ => ?_
  subst hv
  refine ⟨_, he, ?_⟩
  refine post_kept (P := Try.prog) laid_ (b4 := 4) Try.underlying4 (f := Try.f9) (s := Rows.driftMoreSpec) (ds := [d0, d1]) rfl hW' ?_ ?_ ?_ hb
  · kernel_rfl
  · rfl
  · rw [Try.params9]; intro t ht; simp at ht; rcases ht with rfl | rfl <;> exact ⟨by kernel_rfl, of_decide_eq_true (by kernel_rfl)⟩
theorem proved : Rows.DriftMoreSaid :=
  OpenClaim.holds_of_wide 9 Try.f9 rfl rfl rfl rfl rfl rfl rfl ⟨rfl, rfl, rfl, rfl, rfl⟩ rfl rfl rfl rfl rfl (by kernel_rfl) Try.func9 (by kernel_rfl)
    (of_decide_eq_true (by kernel_rfl)) (by unfold Func.isWrapper; first | (rw [if_pos (by decide +kernel)]; kernel_rfl) | (rw [if_neg (by decide +kernel)]; exact ⟨rfl, rfl⟩))
    (fun os started H enc _ => lifted os started H enc)
#print axioms proved
end Go.Proofs.Ytkmnjiejlgoglaa.lawDriftMore
