/- MillCrowds answers true at every input, and leaves what it reads as it was. No condition. By an AI agent; no person has read it. -/
import Derived.Test.YtofnbcfjdngakaaRows
import Derived.Test.YtofnbcfjdngakaaPWg
import Derived.Test.YtofnbcfjdngakaaPO
import Derived.Test.YtofnbcfjdngakaaPYg
namespace Go.Proofs.Ytofnbcfjdngakaa.lawMillCrowds
open Go Go.ChangeShapes Go.WideShapes Go.RowKit Go.K
set_option linter.unusedVariables false
theorem own : ownKnob Try.prog.godebug = none := by kernel_rfl
set_option maxRecDepth 100000 in
set_option maxHeartbeats 1000000 in
theorem lifted (os : Os) (started : os.Started) (H : Type) (enc : TypeId × Value → H) :
    ReturnsInHanded {} Try.checked os 6 .any (Rows.millCrowdsSpec.pre6 enc Try.prog Try.f6 Rows.millCrowdsRow.domain false) (Rows.millCrowdsSpec.post enc Try.prog Try.f6 false true false false) := by
  refine returnsInHanded_of_change (C := Try.checked) own started (by kernel_rfl) Try.func6
    (ChangeSpec.witness6 (enc := enc) (C := Try.checked) false ⟨#[], #[.agg #[.int .i64 0, .slice none 0 0], .slice none 0 0, .slice none 0 0], []⟩ 8 (by kernel_rfl) (by kernel_rfl) (by kernel_rfl) (by kernel_rfl)) ?_
  intro W base args ds gs before hval0 hW hcnd _
  have hval : ∀ (j : Nat) t v, Try.f6.params[j]? = some t → args[j]? = some v → Value.okWide Try.prog W .any base t v := hval0
  have hW' := hW
  obtain ⟨p, q, hA0, hV, rfl, hfz, hnd⟩ := hW
  have hA : DataW.TrodAll enc Try.prog W 0 (fun _ => true) true Try.f6.params.toList args.toList ds p := hA0
  rw [Try.params6] at hA hval
  obtain ⟨v0, vs0, d0, ds0, p0, q0, hargs, rfl, rfl, h0, r0⟩ := trodAll_cons hA
  obtain ⟨v1, vs1, d1, ds1, p1, q1, rfl, rfl, rfl, h1, r1⟩ := trodAll_cons r0
  obtain ⟨v2, vs2, d2, ds2, p2, q2, rfl, rfl, rfl, h2, r2⟩ := trodAll_cons r1
  obtain ⟨rfl, rfl, rfl⟩ := trodAll_nil r2
  obtain rfl : args = #[v0, v1, v2] := by cases args; simp_all
  obtain ⟨rfl, rfl⟩ := trodVars_none hV
  obtain ⟨cs0, rfl, _⟩ := Go.WideShapes.okWide_struct Try.underlying24 (hval 0 24 _ rfl rfl)
  obtain ⟨fu0, h0⟩ := h0
  have hcs0 : (Value.agg cs0).cells.toList = cs0.toList := rfl
  rw [hcs0] at h0
  obtain ⟨cs0⟩ := cs0
  obtain ⟨p0_0, Ap0_1, cp0_1, lp0_1, e0, wp0_0, ⟨hCp0_1, hMp0_1, hKp0_1, wp0_1⟩⟩ := ty24_of h0
  have e0 : cs0 = _ := e0
  subst e0
  obtain ⟨xa1, xb1, xc1, rfl⟩ := okWide_slice Try.underlying49 (hval 1 49 _ rfl rfl)
  obtain ⟨fu1, h1⟩ := h1
  have hcs1 : (Value.slice xa1 xb1 xc1).cells.toList = [.slice xa1 xb1 xc1] := rfl
  rw [hcs1] at h1
  obtain ⟨Ap1, cp1, lp1, e1, ⟨hCp1, hMp1, hKp1, wp1⟩⟩ := row_of (q := W64) (f := eInt) (by decide) eInt_len Try.underlying49 c3 (fun h => intl_of Try.underlying3 h) h1
  injection e1 with ea1 eb1 ec1; subst xa1 xb1 xc1
  obtain ⟨xa2, xb2, xc2, rfl⟩ := okWide_slice Try.underlying49 (hval 2 49 _ rfl rfl)
  obtain ⟨fu2, h2⟩ := h2
  have hcs2 : (Value.slice xa2 xb2 xc2).cells.toList = [.slice xa2 xb2 xc2] := rfl
  rw [hcs2] at h2
  obtain ⟨Ap2, cp2, lp2, e2, ⟨hCp2, hMp2, hKp2, wp2⟩⟩ := row_of (q := W64) (f := eInt) (by decide) eInt_len Try.underlying49 c3 (fun h => intl_of Try.underlying3 h) h2
  injection e2 with ea2 eb2 ec2; subst xa2 xb2 xc2
  clear hA0 hval0
  obtain ⟨NN, hF⟩ : ∃ NN, F6 NN p0_0 lp0_1 lp1 lp2 = some true := ⟨_, crowds5 _ _ _ _ hMp1⟩
  refine Calls.mono (L6 W p0_0 Ap0_1 cp0_1 lp0_1 Ap1 cp1 lp1 Ap2 cp2 lp2 hCp0_1 hMp0_1 hKp0_1 hCp1 hMp1 hKp1 hCp2 hMp2 hKp2 NN true hF) fun e W2 ⟨v, he, hv, hb⟩ => ?_
  subst hv
  refine ⟨_, he, ?_⟩
  refine post_kept (P := Try.prog) laid_ (b4 := 4) Try.underlying4 (f := Try.f6) (s := Rows.millCrowdsSpec) (ds := [d0, d1, d2]) rfl hW' ?_ ?_ ?_ hb
  · kernel_rfl
  · rfl
  · rw [Try.params6]; intro t ht; simp at ht; rcases ht with rfl | rfl | rfl <;> exact ⟨by kernel_rfl, of_decide_eq_true (by kernel_rfl)⟩
theorem proved : Rows.MillCrowdsSaid :=
  OpenClaim.holds_of_wide 6 Try.f6 rfl rfl rfl rfl rfl rfl rfl ⟨rfl, rfl, rfl, rfl, rfl⟩ rfl rfl rfl rfl rfl (by kernel_rfl) Try.func6 (by kernel_rfl)
    (of_decide_eq_true (by kernel_rfl)) (by unfold Func.isWrapper; first | (rw [if_pos (by decide +kernel)]; kernel_rfl) | (rw [if_neg (by decide +kernel)]; exact ⟨rfl, rfl⟩))
    (fun os started H enc _ => lifted os started H enc)
#print axioms proved
end Go.Proofs.Ytofnbcfjdngakaa.lawMillCrowds
