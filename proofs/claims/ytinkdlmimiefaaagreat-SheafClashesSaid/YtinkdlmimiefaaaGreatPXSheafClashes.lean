/- SheafClashes answers true at every input, and leaves what it reads as it was. No condition. By an AI agent; no person has read it. -/
import Derived.Test.YtinkdlmimiefaaaGreatRows
import Derived.Test.YtinkdlmimiefaaaGreatPZa
import Derived.Test.YtinkdlmimiefaaaGreatPO
import Derived.Test.YtinkdlmimiefaaaGreatPYB
namespace Go.Proofs.YtinkdlmimiefaaaGreat.lawSheafClashes
open Go Go.ChangeShapes Go.WideShapes Go.RowKit Go.K
set_option linter.unusedVariables false
theorem own : ownKnob Tryz.prog.godebug = none := by kernel_rfl
set_option maxRecDepth 100000 in
set_option maxHeartbeats 1000000 in
theorem lifted (os : Os) (started : os.Started) (H : Type) (enc : TypeId × Value → H) :
    ReturnsInHanded {} Tryz.checked os 4 .any (Rows.sheafClashesSpec.pre6 enc Tryz.prog Tryz.f4 Rows.sheafClashesRow.domain false) (Rows.sheafClashesSpec.post enc Tryz.prog Tryz.f4 false true false false) := by
  refine returnsInHanded_of_change (C := Tryz.checked) own started (by kernel_rfl) Tryz.func4
    (ChangeSpec.witness6 (enc := enc) (C := Tryz.checked) false ⟨#[], #[.agg #[.int .i64 0, .int .i64 0, .slice none 0 0, .slice none 0 0, .slice none 0 0, .int .i64 0], .int .i64 0, .slice none 0 0], []⟩ 8 (by kernel_rfl) (by kernel_rfl) (by kernel_rfl) (by kernel_rfl)) ?_
  intro W base args ds gs before hval0 hW hcnd _
  have hval : ∀ (j : Nat) t v, Tryz.f4.params[j]? = some t → args[j]? = some v → Value.okWide Tryz.prog W .any base t v := hval0
  have hW' := hW
  obtain ⟨p, q, hA0, hV, rfl, hfz, hnd⟩ := hW
  have hA : DataW.TrodAll enc Tryz.prog W 0 (fun _ => true) true Tryz.f4.params.toList args.toList ds p := hA0
  rw [Tryz.params4] at hA hval
  obtain ⟨v0, vs0, d0, ds0, p0, q0, hargs, rfl, rfl, h0, r0⟩ := trodAll_cons hA
  obtain ⟨v1, vs1, d1, ds1, p1, q1, rfl, rfl, rfl, h1, r1⟩ := trodAll_cons r0
  obtain ⟨v2, vs2, d2, ds2, p2, q2, rfl, rfl, rfl, h2, r2⟩ := trodAll_cons r1
  obtain ⟨rfl, rfl, rfl⟩ := trodAll_nil r2
  obtain rfl : args = #[v0, v1, v2] := by cases args; simp_all
  obtain ⟨rfl, rfl⟩ := trodVars_none hV
  obtain ⟨cs0, rfl, _⟩ := Go.WideShapes.okWide_struct Tryz.underlying28 (hval 0 28 _ rfl rfl)
  obtain ⟨fu0, h0⟩ := h0
  have hcs0 : (Value.agg cs0).cells.toList = cs0.toList := rfl
  rw [hcs0] at h0
  obtain ⟨cs0⟩ := cs0
  obtain ⟨p0_0, p0_1, Ap0_2, cp0_2, lp0_2, Ap0_3, cp0_3, lp0_3, Ap0_4, cp0_4, lp0_4, p0_5, e0, wp0_0, wp0_1, ⟨hCp0_2, hMp0_2, hKp0_2, wp0_2⟩, ⟨hCp0_3, hMp0_3, hKp0_3, wp0_3⟩, ⟨hCp0_4, hMp0_4, hKp0_4, wp0_4⟩, wp0_5⟩ := ty28_of h0
  have e0 : cs0 = _ := e0
  subst e0
  obtain ⟨xa1, rfl⟩ := okWide_int Tryz.underlying3 (hval 1 3 _ rfl rfl)
  obtain ⟨fu1, h1⟩ := h1
  have hcs1 : (Value.int .i64 xa1).cells.toList = [.int .i64 xa1] := rfl
  rw [hcs1] at h1
  obtain ⟨p1, e1, wp1⟩ := intb_of Tryz.underlying3 h1
  injection e1 with ea1 eb1; subst xa1
  obtain ⟨xa2, xb2, xc2, rfl⟩ := okWide_slice Tryz.underlying41 (hval 2 41 _ rfl rfl)
  obtain ⟨fu2, h2⟩ := h2
  have hcs2 : (Value.slice xa2 xb2 xc2).cells.toList = [.slice xa2 xb2 xc2] := rfl
  rw [hcs2] at h2
  obtain ⟨Ap2, cp2, lp2, e2, ⟨hCp2, hMp2, hKp2, wp2⟩⟩ := row_of (q := W64) (f := eInt) (by decide) eInt_len Tryz.underlying41 c3 (fun h => intl_of Tryz.underlying3 h) h2
  injection e2 with ea2 eb2 ec2; subst xa2 xb2 xc2
  clear hA0 hval0
  obtain ⟨NN, hF⟩ : ∃ NN, F4 NN p0_0 p0_1 lp0_2 lp0_3 lp0_4 p0_5 p1 lp2 = some true := ⟨_, clashes1 (⟨p0_0, p0_1, lp0_2, lp0_3, lp0_4, p0_5⟩ : Pl) p1 lp2 hMp2⟩
  refine Calls.mono (L4 W p0_0 p0_1 Ap0_2 cp0_2 lp0_2 Ap0_3 cp0_3 lp0_3 Ap0_4 cp0_4 lp0_4 p0_5 p1 Ap2 cp2 lp2 hCp0_2 hMp0_2 hKp0_2 hCp0_3 hMp0_3 hKp0_3 hCp0_4 hMp0_4 hKp0_4 hCp2 hMp2 hKp2 NN true hF) fun e W2 ⟨v, he, hv, hb⟩ => ?_
  subst hv
  refine ⟨_, he, ?_⟩
  refine post_kept (P := Tryz.prog) laid_ (b4 := 4) Tryz.underlying4 (f := Tryz.f4) (s := Rows.sheafClashesSpec) (ds := [d0, d1, d2]) rfl hW' ?_ ?_ ?_ hb
  · kernel_rfl
  · rfl
  · rw [Tryz.params4]; intro t ht; simp at ht; rcases ht with rfl | rfl | rfl <;> exact ⟨by kernel_rfl, of_decide_eq_true (by kernel_rfl)⟩
theorem proved : Rows.SheafClashesSaid :=
  OpenClaim.holds_of_wide 4 Tryz.f4 rfl rfl rfl rfl rfl rfl rfl ⟨rfl, rfl, rfl, rfl, rfl⟩ rfl rfl rfl rfl rfl (by kernel_rfl) Tryz.func4 (by kernel_rfl)
    (of_decide_eq_true (by kernel_rfl)) (by unfold Func.isWrapper; first | (rw [if_pos (by decide +kernel)]; kernel_rfl) | (rw [if_neg (by decide +kernel)]; exact ⟨rfl, rfl⟩))
    (fun os started H enc _ => lifted os started H enc)
#print axioms proved
end Go.Proofs.YtinkdlmimiefaaaGreat.lawSheafClashes
