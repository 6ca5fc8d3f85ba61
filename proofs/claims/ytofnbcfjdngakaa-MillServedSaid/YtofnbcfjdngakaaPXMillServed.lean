/- MillServed answers true at every input, and leaves what it reads as it was. No condition. By an AI agent; no person has read it. -/
import Derived.Test.YtofnbcfjdngakaaRows
import Derived.Test.YtofnbcfjdngakaaPWd
import Derived.Test.YtofnbcfjdngakaaPO
import Derived.Test.YtofnbcfjdngakaaPYd
namespace Go.Proofs.Ytofnbcfjdngakaa.lawMillServed
open Go Go.ChangeShapes Go.WideShapes Go.RowKit Go.K
set_option linter.unusedVariables false
theorem own : ownKnob Try.prog.godebug = none := by kernel_rfl
set_option maxRecDepth 100000 in
set_option maxHeartbeats 1000000 in
theorem lifted (os : Os) (started : os.Started) (H : Type) (enc : TypeId × Value → H) :
    ReturnsInHanded {} Try.checked os 9 .any (Rows.millServedSpec.pre6 enc Try.prog Try.f9 Rows.millServedRow.domain false) (Rows.millServedSpec.post enc Try.prog Try.f9 false true false false) := by
  refine returnsInHanded_of_change (C := Try.checked) own started (by kernel_rfl) Try.func9
    (ChangeSpec.witness6 (enc := enc) (C := Try.checked) false ⟨#[], #[.int .i64 0, .slice none 0 0, .agg #[.slice none 0 0, .slice none 0 0]], []⟩ 8 (by kernel_rfl) (by kernel_rfl) (by kernel_rfl) (by kernel_rfl)) ?_
  intro W base args ds gs before hval0 hW hcnd _
  have hval : ∀ (j : Nat) t v, Try.f9.params[j]? = some t → args[j]? = some v → Value.okWide Try.prog W .any base t v := hval0
  have hW' := hW
  obtain ⟨p, q, hA0, hV, rfl, hfz, hnd⟩ := hW
  have hA : DataW.TrodAll enc Try.prog W 0 (fun _ => true) true Try.f9.params.toList args.toList ds p := hA0
  rw [Try.params9] at hA hval
  obtain ⟨v0, vs0, d0, ds0, p0, q0, hargs, rfl, rfl, h0, r0⟩ := trodAll_cons hA
  obtain ⟨v1, vs1, d1, ds1, p1, q1, rfl, rfl, rfl, h1, r1⟩ := trodAll_cons r0
  obtain ⟨v2, vs2, d2, ds2, p2, q2, rfl, rfl, rfl, h2, r2⟩ := trodAll_cons r1
  obtain ⟨rfl, rfl, rfl⟩ := trodAll_nil r2
  obtain rfl : args = #[v0, v1, v2] := by cases args; simp_all
  obtain ⟨rfl, rfl⟩ := trodVars_none hV
  obtain ⟨xa0, rfl⟩ := okWide_int Try.underlying3 (hval 0 3 _ rfl rfl)
  obtain ⟨fu0, h0⟩ := h0
  have hcs0 : (Value.int .i64 xa0).cells.toList = [.int .i64 xa0] := rfl
  rw [hcs0] at h0
  obtain ⟨p0, e0, wp0⟩ := intb_of Try.underlying3 h0
  injection e0 with ea0 eb0; subst xa0
  obtain ⟨xa1, xb1, xc1, rfl⟩ := okWide_slice Try.underlying68 (hval 1 68 _ rfl rfl)
  obtain ⟨fu1, h1⟩ := h1
  have hcs1 : (Value.slice xa1 xb1 xc1).cells.toList = [.slice xa1 xb1 xc1] := rfl
  rw [hcs1] at h1
  obtain ⟨Ap1, cp1, lp1, e1, ⟨hCp1, hMp1, hKp1, wp1⟩⟩ := row_of (q := q77) (f := eA2) (by decide) eA2_len Try.underlying68 c77 (fun h => el77_of h) h1
  injection e1 with ea1 eb1 ec1; subst xa1 xb1 xc1
  obtain ⟨cs2, rfl⟩ : ∃ cs, v2 = .agg cs := by
    have hv := hval 2 69 _ rfl rfl
    simp only [Value.okWide, Try.underlying69] at hv
    exact ⟨hv.choose, hv.choose_spec.1⟩
  obtain ⟨fu2, h2⟩ := h2
  have hcs2 : (Value.agg cs2).cells.toList = cs2.toList := rfl
  rw [hcs2] at h2
  obtain ⟨cs2⟩ := cs2
  obtain ⟨Ap2_0, cp2_0, lp2_0, Ap2_1, cp2_1, lp2_1, e2, ⟨hCp2_0, hMp2_0, hKp2_0, wp2_0⟩, ⟨hCp2_1, hMp2_1, hKp2_1, wp2_1⟩⟩ := ty69_of h2
  have e2 : cs2 = _ := e2
  subst e2
  clear hA0 hval0
  obtain ⟨NN, hF⟩ : ∃ NN, F9 NN p0 lp1 lp2_0 lp2_1 = some true := ⟨_, served5 _ _ _ _⟩
  refine Calls.mono (L9 W p0 Ap1 cp1 lp1 Ap2_0 cp2_0 lp2_0 Ap2_1 cp2_1 lp2_1 hCp1 hMp1 hKp1 hCp2_0 hMp2_0 hKp2_0 hCp2_1 hMp2_1 hKp2_1 NN true hF) fun e W2 ⟨v, he, hv, hb⟩ => ?_
  subst hv
  refine ⟨_, he, ?_⟩
  refine post_kept (P := Try.prog) laid_ (b4 := 4) Try.underlying4 (f := Try.f9) (s := Rows.millServedSpec) (ds := [d0, d1, d2]) rfl hW' ?_ ?_ ?_ hb
  · kernel_rfl
  · rfl
  · rw [Try.params9]; intro t ht; simp at ht; rcases ht with rfl | rfl | rfl <;> exact ⟨by kernel_rfl, of_decide_eq_true (by kernel_rfl)⟩
theorem proved : Rows.MillServedSaid :=
  OpenClaim.holds_of_wide 9 Try.f9 rfl rfl rfl rfl rfl rfl rfl ⟨rfl, rfl, rfl, rfl, rfl⟩ rfl rfl rfl rfl rfl (by kernel_rfl) Try.func9 (by kernel_rfl)
    (of_decide_eq_true (by kernel_rfl)) (by unfold Func.isWrapper; first | (rw [if_pos (by decide +kernel)]; kernel_rfl) | (rw [if_neg (by decide +kernel)]; exact ⟨rfl, rfl⟩))
    (fun os started H enc _ => lifted os started H enc)
#print axioms proved
end Go.Proofs.Ytofnbcfjdngakaa.lawMillServed
