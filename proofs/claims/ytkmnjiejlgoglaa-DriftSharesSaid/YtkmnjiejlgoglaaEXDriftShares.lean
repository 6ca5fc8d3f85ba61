/- DriftShares answers true at every input, and leaves what it reads as it was. No condition. By an AI agent; no person has read it. -/
import Derived.Test.YtkmnjiejlgoglaaRows
import Derived.Test.YtkmnjiejlgoglaaEWf
import Derived.Test.YtkmnjiejlgoglaaEO
import Derived.Test.YtkmnjiejlgoglaaEYA
namespace Go.Proofs.Ytkmnjiejlgoglaa.lawDriftShares
open Go Go.ChangeShapes Go.WideShapes Go.RowKit Go.K
set_option linter.unusedVariables false
theorem own : ownKnob Try.prog.godebug = none := by kernel_rfl
set_option maxRecDepth 100000 in
set_option maxHeartbeats 1000000 in
theorem lifted (os : Os) (started : os.Started) (H : Type) (enc : TypeId × Value → H) :
    ReturnsInHanded {} Try.checked os 5 .any (Rows.driftSharesSpec.pre6 enc Try.prog Try.f5 Rows.driftSharesRow.domain false) (Rows.driftSharesSpec.post enc Try.prog Try.f5 false true false false) := by
  refine returnsInHanded_of_change (C := Try.checked) own started (by kernel_rfl) Try.func5
    (ChangeSpec.witness6 (enc := enc) (C := Try.checked) false ⟨#[], #[.agg #[.slice none 0 0, .slice none 0 0], .slice none 0 0, .agg #[.slice none 0 0, .int .i64 0, .int .i64 0, .int .i64 0, .slice none 0 0, .int .i64 0, .int .i64 0]], []⟩ 8 (by kernel_rfl) (by kernel_rfl) (by kernel_rfl) (by kernel_rfl)) ?_
  intro W base args ds gs before hval0 hW hcnd _
  have hval : ∀ (j : Nat) t v, Try.f5.params[j]? = some t → args[j]? = some v → Value.okWide Try.prog W .any base t v := hval0
  have hW' := hW
  obtain ⟨p, q, hA0, hV, rfl, hfz, hnd⟩ := hW
  have hA : DataW.TrodAll enc Try.prog W 0 (fun _ => true) true Try.f5.params.toList args.toList ds p := hA0
  rw [Try.params5] at hA hval
  obtain ⟨v0, vs0, d0, ds0, p0, q0, hargs, rfl, rfl, h0, r0⟩ := trodAll_cons hA
  obtain ⟨v1, vs1, d1, ds1, p1, q1, rfl, rfl, rfl, h1, r1⟩ := trodAll_cons r0
  obtain ⟨v2, vs2, d2, ds2, p2, q2, rfl, rfl, rfl, h2, r2⟩ := trodAll_cons r1
  obtain ⟨rfl, rfl, rfl⟩ := trodAll_nil r2
  obtain rfl : args = #[v0, v1, v2] := by cases args; simp_all
  obtain ⟨rfl, rfl⟩ := trodVars_none hV
  obtain ⟨cs0, rfl, _⟩ := Go.WideShapes.okWide_struct Try.underlying25 (hval 0 25 _ rfl rfl)
  obtain ⟨fu0, h0⟩ := h0
  have hcs0 : (Value.agg cs0).cells.toList = cs0.toList := rfl
  rw [hcs0] at h0
  obtain ⟨cs0⟩ := cs0
  obtain ⟨Ap0_0, cp0_0, lp0_0, Ap0_1, cp0_1, lp0_1, e0, ⟨hCp0_0, hMp0_0, hKp0_0, wp0_0⟩, ⟨hCp0_1, hMp0_1, hKp0_1, wp0_1⟩⟩ := ty25_of h0
  have e0 : cs0 = _ := e0
  subst e0
  obtain ⟨xa1, xb1, xc1, rfl⟩ := okWide_slice Try.underlying26 (hval 1 26 _ rfl rfl)
  obtain ⟨fu1, h1⟩ := h1
  have hcs1 : (Value.slice xa1 xb1 xc1).cells.toList = [.slice xa1 xb1 xc1] := rfl
  rw [hcs1] at h1
  obtain ⟨Ap1, cp1, lp1, e1, ⟨hCp1, hMp1, hKp1, wp1⟩⟩ := row_of (q := q34) (f := eCl) (by decide) eb Try.underlying26 c34 (fun h => el34_of h) h1
  injection e1 with ea1 eb1 ec1; subst xa1 xb1 xc1
  obtain ⟨cs2, rfl, _⟩ := Go.WideShapes.okWide_struct Try.underlying71 (hval 2 71 _ rfl rfl)
  obtain ⟨fu2, h2⟩ := h2
  have hcs2 : (Value.agg cs2).cells.toList = cs2.toList := rfl
  rw [hcs2] at h2
  obtain ⟨cs2⟩ := cs2
  obtain ⟨Ap2_0, cp2_0, lp2_0, p2_1, p2_2, p2_3, Ap2_4, cp2_4, lp2_4, p2_5, p2_6, e2, ⟨hCp2_0, hMp2_0, hKp2_0, wp2_0⟩, wp2_1, wp2_2, wp2_3, ⟨hCp2_4, hMp2_4, hKp2_4, wp2_4⟩, wp2_5, wp2_6⟩ := ty71_of h2
  have e2 : cs2 = _ := e2
  subst e2
  clear hA0 hval0
  obtain ⟨NN, hF⟩ : ∃ NN, F5 NN lp0_0 lp0_1 lp1 lp2_0 p2_1 p2_2 p2_3 lp2_4 p2_5 p2_6 = some true := ⟨_, shares4 _ _ _ hMp1 _ _ _ _ _ hMp2_4 _ _⟩
  refine Calls.mono (L5 W Ap0_0 cp0_0 lp0_0 Ap0_1 cp0_1 lp0_1 Ap1 cp1 lp1 Ap2_0 cp2_0 lp2_0 p2_1 p2_2 p2_3 Ap2_4 cp2_4 lp2_4 p2_5 p2_6 hCp0_0 hMp0_0 hKp0_0 hCp0_1 hMp0_1 hKp0_1 hCp1 hMp1 hKp1 hCp2_0 hMp2_0 hKp2_0 hCp2_4 hMp2_4 hKp2_4 NN true hF) fun e W2 ⟨v, he, hv, hb⟩ => ?_
  subst hv
  refine ⟨_, he, ?_⟩
  refine post_kept (P := Try.prog) laid_ (b4 := 4) Try.underlying4 (f := Try.f5) (s := Rows.driftSharesSpec) (ds := [d0, d1, d2]) rfl hW' ?_ ?_ ?_ hb.kit
  · kernel_rfl
  · rfl
  rw [Try.params5]; intro t ht; simp at ht; rcases ht with rfl | rfl | rfl <;> exact ⟨by kernel_rfl, of_decide_eq_true (by kernel_rfl)⟩
theorem proved : Rows.DriftSharesSaid :=
  OpenClaim.holds_of_wide 5 Try.f5 rfl rfl rfl rfl rfl rfl rfl ⟨rfl, rfl, rfl, rfl, rfl⟩ rfl rfl rfl rfl rfl (by kernel_rfl) Try.func5 (by kernel_rfl)
    (of_decide_eq_true (by kernel_rfl)) (by unfold Func.isWrapper; first | (rw [if_pos (by decide +kernel)]; kernel_rfl) | (rw [if_neg (by decide +kernel)]; exact ⟨rfl, rfl⟩))
    (fun os started H enc _ => lifted os started H enc)
#print axioms proved
end Go.Proofs.Ytkmnjiejlgoglaa.lawDriftShares
