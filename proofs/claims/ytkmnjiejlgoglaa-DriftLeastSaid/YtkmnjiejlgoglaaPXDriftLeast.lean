/- DriftLeast answers true at every input, and leaves what it reads as it was. No condition. By an AI agent; no person has read it. -/
import Derived.Test.YtkmnjiejlgoglaaRows
import Derived.Test.YtkmnjiejlgoglaaPWf
import Derived.Test.YtkmnjiejlgoglaaPO
import Derived.Test.YtkmnjiejlgoglaaPY8
namespace Go.Proofs.Ytkmnjiejlgoglaa.lawDriftLeast
open Go Go.ChangeShapes Go.WideShapes Go.RowKit Go.K
set_option linter.unusedVariables false
theorem own : ownKnob Try.prog.godebug = none := by kernel_rfl
set_option maxRecDepth 100000 in
set_option maxHeartbeats 1000000 in
theorem lifted (os : Os) (started : os.Started) (H : Type) (enc : TypeId × Value → H) :
    ReturnsInHanded {} Try.checked os 8 .any (Rows.driftLeastSpec.pre6 enc Try.prog Try.f8 Rows.driftLeastRow.domain false) (Rows.driftLeastSpec.post enc Try.prog Try.f8 false true false false) := by
  refine returnsInHanded_of_change (C := Try.checked) own started (by kernel_rfl) Try.func8
    (ChangeSpec.witness6 (enc := enc) (C := Try.checked) false ⟨#[], #[.agg #[.slice none 0 0, .slice none 0 0, .slice none 0 0], .agg #[.int .i64 0, .slice none 0 0, .int .i64 0, .int .i64 0], .slice none 0 0], []⟩ 8 (by kernel_rfl) (by kernel_rfl) (by kernel_rfl) (by kernel_rfl)) ?_
  intro W base args ds gs before hval0 hW hcnd _
  have hval : ∀ (j : Nat) t v, Try.f8.params[j]? = some t → args[j]? = some v → Value.okWide Try.prog W .any base t v := hval0
  have hW' := hW
  obtain ⟨p, q, hA0, hV, rfl, hfz, hnd⟩ := hW
  have hA : DataW.TrodAll enc Try.prog W 0 (fun _ => true) true Try.f8.params.toList args.toList ds p := hA0
  rw [Try.params8] at hA hval
  obtain ⟨v0, vs0, d0, ds0, p0, q0, hargs, rfl, rfl, h0, r0⟩ := trodAll_cons hA
  obtain ⟨v1, vs1, d1, ds1, p1, q1, rfl, rfl, rfl, h1, r1⟩ := trodAll_cons r0
  obtain ⟨v2, vs2, d2, ds2, p2, q2, rfl, rfl, rfl, h2, r2⟩ := trodAll_cons r1
  obtain ⟨rfl, rfl, rfl⟩ := trodAll_nil r2
  obtain rfl : args = #[v0, v1, v2] := by cases args; simp_all
  obtain ⟨rfl, rfl⟩ := trodVars_none hV
  obtain ⟨cs0, rfl, _⟩ := Go.WideShapes.okWide_struct Try.underlying96 (hval 0 96 _ rfl rfl)
  obtain ⟨fu0, h0⟩ := h0
  have hcs0 : (Value.agg cs0).cells.toList = cs0.toList := rfl
  rw [hcs0] at h0
  obtain ⟨cs0⟩ := cs0
  obtain ⟨Ap0_0, cp0_0, lp0_0, Ap0_1, cp0_1, lp0_1, Ap0_2, cp0_2, lp0_2, e0, ⟨hCp0_0, hMp0_0, hKp0_0, wp0_0⟩, ⟨hCp0_1, hMp0_1, hKp0_1, wp0_1⟩, ⟨hCp0_2, hMp0_2, hKp0_2, wp0_2⟩⟩ := ty96_of h0
  have e0 : cs0 = _ := e0
  subst e0
  obtain ⟨cs1, rfl, _⟩ := Go.WideShapes.okWide_struct Try.underlying69 (hval 1 69 _ rfl rfl)
  obtain ⟨fu1, h1⟩ := h1
  have hcs1 : (Value.agg cs1).cells.toList = cs1.toList := rfl
  rw [hcs1] at h1
  obtain ⟨cs1⟩ := cs1
  obtain ⟨p1_0, Ap1_1, cp1_1, lp1_1, p1_2, p1_3, e1, wp1_0, ⟨hCp1_1, hMp1_1, hKp1_1, wp1_1⟩, wp1_2, wp1_3⟩ := ty69_of h1
  have e1 : cs1 = _ := e1
  subst e1
  obtain ⟨xa2, xb2, xc2, rfl⟩ := okWide_slice Try.underlying93 (hval 2 93 _ rfl rfl)
  obtain ⟨fu2, h2⟩ := h2
  have hcs2 : (Value.slice xa2 xb2 xc2).cells.toList = [.slice xa2 xb2 xc2] := rfl
  rw [hcs2] at h2
  obtain ⟨Ap2, cp2, lp2, e2, ⟨hCp2, hMp2, hKp2, wp2⟩⟩ := row_of (q := q101) (f := eA2) (by decide) eA2_len Try.underlying93 c101 (fun h => el101_of h) h2
  injection e2 with ea2 eb2 ec2; subst xa2 xb2 xc2
  clear hA0 hval0
  obtain ⟨NN, hF⟩ : ∃ NN, F8 NN lp0_0 lp0_1 lp0_2 p1_0 lp1_1 p1_2 p1_3 lp2 = some true := ⟨_, least4 _ _ _ _ _ _ _ _⟩
  refine Calls.mono (L8 W Ap0_0 cp0_0 lp0_0 Ap0_1 cp0_1 lp0_1 Ap0_2 cp0_2 lp0_2 p1_0 Ap1_1 cp1_1 lp1_1 p1_2 p1_3 Ap2 cp2 lp2 hCp0_0 hMp0_0 hKp0_0 hCp0_1 hMp0_1 hKp0_1 hCp0_2 hMp0_2 hKp0_2 hCp1_1 hMp1_1 hKp1_1 hCp2 hMp2 hKp2 NN true hF) fun e W2 ⟨v, he, hv, hb⟩ => ?_
  subst hv
  refine ⟨_, he, ?_⟩
  refine post_kept (P := Try.prog) laid_ (b4 := 4) Try.underlying4 (f := Try.f8) (s := Rows.driftLeastSpec) (ds := [d0, d1, d2]) rfl hW' ?_ ?_ ?_ hb
  · kernel_rfl
  · rfl
  · rw [Try.params8]; intro t ht; simp at ht; rcases ht with rfl | rfl | rfl <;> exact ⟨by kernel_rfl, of_decide_eq_true (by kernel_rfl)⟩
theorem proved : Rows.DriftLeastSaid :=
  OpenClaim.holds_of_wide 8 Try.f8 rfl rfl rfl rfl rfl rfl rfl ⟨rfl, rfl, rfl, rfl, rfl⟩ rfl rfl rfl rfl rfl (by kernel_rfl) Try.func8 (by kernel_rfl)
    (of_decide_eq_true (by kernel_rfl)) (by unfold Func.isWrapper; first | (rw [if_pos (by decide +kernel)]; kernel_rfl) | (rw [if_neg (by decide +kernel)]; exact ⟨rfl, rfl⟩))
    (fun os started H enc _ => lifted os started H enc)
#print axioms proved
end Go.Proofs.Ytkmnjiejlgoglaa.lawDriftLeast
