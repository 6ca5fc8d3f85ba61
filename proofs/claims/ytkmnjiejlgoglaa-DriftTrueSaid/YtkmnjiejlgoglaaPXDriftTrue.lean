/- DriftTrue answers true at every input, and leaves what it reads as it was. No condition. By an AI agent; no person has read it. -/
import Derived.Test.YtkmnjiejlgoglaaRows
import Derived.Test.YtkmnjiejlgoglaaPWf
import Derived.Test.YtkmnjiejlgoglaaPO
import Derived.Test.YtkmnjiejlgoglaaPYa
namespace Go.Proofs.Ytkmnjiejlgoglaa.lawDriftTrue
open Go Go.ChangeShapes Go.WideShapes Go.RowKit Go.K
set_option linter.unusedVariables false
theorem own : ownKnob Try.prog.godebug = none := by kernel_rfl
set_option maxRecDepth 100000 in
set_option maxHeartbeats 1000000 in
theorem lifted (os : Os) (started : os.Started) (H : Type) (enc : TypeId × Value → H) :
    ReturnsInHanded {} Try.checked os 6 .any (Rows.driftTrueSpec.pre6 enc Try.prog Try.f6 Rows.driftTrueRow.domain false) (Rows.driftTrueSpec.post enc Try.prog Try.f6 false true false false) := by
  refine returnsInHanded_of_change (C := Try.checked) own started (by kernel_rfl) Try.func6
    (ChangeSpec.witness6 (enc := enc) (C := Try.checked) false ⟨#[], #[.agg #[.slice none 0 0, .slice none 0 0, .slice none 0 0], .agg #[.int .i64 0, .int .i64 0, .int .i64 0, .int .i64 0], .slice none 0 0], []⟩ 8 (by kernel_rfl) (by kernel_rfl) (by kernel_rfl) (by kernel_rfl)) ?_
  intro W base args ds gs before hval0 hW hcnd _
  have hval : ∀ (j : Nat) t v, Try.f6.params[j]? = some t → args[j]? = some v → Value.okWide Try.prog W .any base t v := hval0
  have hW' := hW
  obtain ⟨p, q, hA0, hV, rfl, hfz, hnd⟩ := hW
  have hA : DataW.TrodAll enc Try.prog W 0 (fun _ => true) true Try.f6.params.toList args.toList ds p := hA0
  rw [Try.params6] at hA hval
  obtain ⟨v0, vs0, d0, ds0, p0, q0, hargs, rfl, rfl, h0, r0⟩ := trodAll_cons hA
  obtain ⟨v1, vs1, d1, ds1, p1, q1, rfl, rfl, rfl, h1, r1⟩ := trodAll_cons r0
  obtain ⟨v2, vs2, d2, ds2, p2, q2, rfl, rfl, rfl, h2, r2⟩ := trodAll_cons r1
  obtain ⟨rfl, rfl, rfl⟩ := trodAll_nil r2
  obtain rfl : args = #[v0, v1, v2] := by cases args; simp_all
  obtain ⟨rfl, rfl⟩ := trodVars_none hV
  obtain ⟨cs0, rfl, _⟩ := Go.WideShapes.okWide_struct Try.underlying96 (hval 0 96 _ rfl rfl)
  obtain ⟨fu0, h0⟩ := h0
  have hcs0 : (Value.agg cs0).cells.toList = cs0.toList := rfl
  rw [hcs0] at h0
  obtain ⟨cs0⟩ := cs0
  obtain ⟨Ap0_0, cp0_0, lp0_0, Ap0_1, cp0_1, lp0_1, Ap0_2, cp0_2, lp0_2, e0, ⟨hCp0_0, hMp0_0, hKp0_0, wp0_0⟩, ⟨hCp0_1, hMp0_1, hKp0_1, wp0_1⟩, ⟨hCp0_2, hMp0_2, hKp0_2, wp0_2⟩⟩ := ty96_of h0
  have e0 : cs0 = _ := e0
  subst e0
  obtain ⟨cs1, rfl⟩ : ∃ cs, v1 = .agg cs := by
    have hv := hval 1 97 _ rfl rfl
    simp only [Value.okWide, Try.underlying97] at hv
    exact ⟨hv.choose, hv.choose_spec.1⟩
  obtain ⟨fu1, h1⟩ := h1
  have hcs1 : (Value.agg cs1).cells.toList = cs1.toList := rfl
  rw [hcs1] at h1
  obtain ⟨cs1⟩ := cs1
  obtain ⟨p1_0, p1_1, p1_2, p1_3, e1, wp1_0, wp1_1, wp1_2, wp1_3⟩ := ty97_of h1
  have e1 : cs1 = _ := e1
  subst e1
  obtain ⟨xa2, xb2, xc2, rfl⟩ := okWide_slice Try.underlying52 (hval 2 52 _ rfl rfl)
  obtain ⟨fu2, h2⟩ := h2
  have hcs2 : (Value.slice xa2 xb2 xc2).cells.toList = [.slice xa2 xb2 xc2] := rfl
  rw [hcs2] at h2
  obtain ⟨Ap2, cp2, lp2, e2, ⟨hCp2, hMp2, hKp2, wp2⟩⟩ := row_of (q := W64) (f := eInt) (by decide) eInt_len Try.underlying52 c3 (fun h => intl_of Try.underlying3 h) h2
  injection e2 with ea2 eb2 ec2; subst xa2 xb2 xc2
  clear hA0 hval0
  obtain ⟨NN, hF⟩ : ∃ NN, F6 NN lp0_0 lp0_1 lp0_2 p1_0 p1_1 p1_2 p1_3 lp2 = some true := ⟨_, true4 _ _ _ _ _ _ _ _⟩
  refine Calls.mono (L6 W Ap0_0 cp0_0 lp0_0 Ap0_1 cp0_1 lp0_1 Ap0_2 cp0_2 lp0_2 p1_0 p1_1 p1_2 p1_3 Ap2 cp2 lp2 hCp0_0 hMp0_0 hKp0_0 hCp0_1 hMp0_1 hKp0_1 hCp0_2 hMp0_2 hKp0_2 hCp2 hMp2 hKp2 NN true hF) fun e W2 ⟨v, he, hv, hb⟩ => ?_
  subst hv
  refine ⟨_, he, ?_⟩
  refine post_kept (P := Try.prog) laid_ (b4 := 4) Try.underlying4 (f := Try.f6) (s := Rows.driftTrueSpec) (ds := [d0, d1, d2]) rfl hW' ?_ ?_ ?_ hb
  · kernel_rfl
  · rfl
  · rw [Try.params6]; intro t ht; simp at ht; rcases ht with rfl | rfl | rfl <;> exact ⟨by kernel_rfl, of_decide_eq_true (by kernel_rfl)⟩
theorem proved : Rows.DriftTrueSaid :=
  OpenClaim.holds_of_wide 6 Try.f6 rfl rfl rfl rfl rfl rfl rfl ⟨rfl, rfl, rfl, rfl, rfl⟩ rfl rfl rfl rfl rfl (by kernel_rfl) Try.func6 (by kernel_rfl)
    (of_decide_eq_true (by kernel_rfl)) (by unfold Func.isWrapper; first | (rw [if_pos (by decide +kernel)]; kernel_rfl) | (rw [if_neg (by decide +kernel)]; exact ⟨rfl, rfl⟩))
    (fun os started H enc _ => lifted os started H enc)
#print axioms proved
end Go.Proofs.Ytkmnjiejlgoglaa.lawDriftTrue
