/- SheafOpens answers true at every input, and leaves what it reads as it was. No condition. By an AI agent; no person has read it. -/
import Derived.Test.YtinkdlmimiefaaaGreatRows
import Derived.Test.YtinkdlmimiefaaaGreatPZ2a
import Derived.Test.YtinkdlmimiefaaaGreatPO
import Derived.Test.YtinkdlmimiefaaaGreatPYD
namespace Go.Proofs.YtinkdlmimiefaaaGreat.lawSheafOpens
open Go Go.ChangeShapes Go.WideShapes Go.RowKit Go.K
set_option linter.unusedVariables false
theorem own : ownKnob Tryz.prog.godebug = none := by kernel_rfl
set_option maxRecDepth 100000 in
set_option maxHeartbeats 1000000 in
theorem lifted (os : Os) (started : os.Started) (H : Type) (enc : TypeId × Value → H) :
    ReturnsInHanded {} Tryz.checked os 6 .any (Rows.sheafOpensSpec.pre6 enc Tryz.prog Tryz.f6 Rows.sheafOpensRow.domain false) (Rows.sheafOpensSpec.post enc Tryz.prog Tryz.f6 false true false false) := by
  refine returnsInHanded_of_change (C := Tryz.checked) own started (by kernel_rfl) Tryz.func6
    (ChangeSpec.witness6 (enc := enc) (C := Tryz.checked) false ⟨#[], #[.agg #[.int .i64 0, .int .i64 0, .slice none 0 0, .slice none 0 0, .slice none 0 0, .int .i64 0], .agg #[.int .i64 0, .slice none 0 0, .int .i64 0, .int .i64 0, .int .i64 0]], []⟩ 8 (by kernel_rfl) (by kernel_rfl) (by kernel_rfl) (by kernel_rfl)) ?_
  intro W base args ds gs before hval0 hW hcnd _
  have hval : ∀ (j : Nat) t v, Tryz.f6.params[j]? = some t → args[j]? = some v → Value.okWide Tryz.prog W .any base t v := hval0
  have hW' := hW
  obtain ⟨p, q, hA0, hV, rfl, hfz, hnd⟩ := hW
  have hA : DataW.TrodAll enc Tryz.prog W 0 (fun _ => true) true Tryz.f6.params.toList args.toList ds p := hA0
  rw [Tryz.params6] at hA hval
  obtain ⟨v0, vs0, d0, ds0, p0, q0, hargs, rfl, rfl, h0, r0⟩ := trodAll_cons hA
  obtain ⟨v1, vs1, d1, ds1, p1, q1, rfl, rfl, rfl, h1, r1⟩ := trodAll_cons r0
  obtain ⟨rfl, rfl, rfl⟩ := trodAll_nil r1
  obtain rfl : args = #[v0, v1] := by cases args; simp_all
  obtain ⟨rfl, rfl⟩ := trodVars_none hV
  obtain ⟨cs0, rfl, _⟩ := Go.WideShapes.okWide_struct Tryz.underlying28 (hval 0 28 _ rfl rfl)
  obtain ⟨fu0, h0⟩ := h0
  have hcs0 : (Value.agg cs0).cells.toList = cs0.toList := rfl
  rw [hcs0] at h0
  obtain ⟨cs0⟩ := cs0
  obtain ⟨p0_0, p0_1, Ap0_2, cp0_2, lp0_2, Ap0_3, cp0_3, lp0_3, Ap0_4, cp0_4, lp0_4, p0_5, e0, wp0_0, wp0_1, ⟨hCp0_2, hMp0_2, hKp0_2, wp0_2⟩, ⟨hCp0_3, hMp0_3, hKp0_3, wp0_3⟩, ⟨hCp0_4, hMp0_4, hKp0_4, wp0_4⟩, wp0_5⟩ := ty28_of h0
  have e0 : cs0 = _ := e0
  subst e0
  obtain ⟨cs1, rfl, _⟩ := Go.WideShapes.okWide_struct Tryz.underlying59 (hval 1 59 _ rfl rfl)
  obtain ⟨fu1, h1⟩ := h1
  have hcs1 : (Value.agg cs1).cells.toList = cs1.toList := rfl
  rw [hcs1] at h1
  obtain ⟨cs1⟩ := cs1
  obtain ⟨p1_0, Ap1_1, cp1_1, lp1_1, p1_2, p1_3, p1_4, e1, wp1_0, ⟨hCp1_1, hMp1_1, hKp1_1, wp1_1⟩, wp1_2, wp1_3, wp1_4⟩ := ty59_of h1
  have e1 : cs1 = _ := e1
  subst e1
  clear hA0 hval0
  obtain ⟨NN, hF⟩ : ∃ NN, F6 NN p0_0 p0_1 lp0_2 lp0_3 lp0_4 p0_5 p1_0 lp1_1 p1_2 p1_3 p1_4 = some true := ⟨_, opens1 (⟨p0_0, p0_1, lp0_2, lp0_3, lp0_4, p0_5⟩ : Pl) p1_0 lp1_1 p1_2 p1_3 p1_4 hMp1_1⟩
  refine Calls.mono (L6 W p0_0 p0_1 Ap0_2 cp0_2 lp0_2 Ap0_3 cp0_3 lp0_3 Ap0_4 cp0_4 lp0_4 p0_5 p1_0 Ap1_1 cp1_1 lp1_1 p1_2 p1_3 p1_4 hCp0_2 hMp0_2 hKp0_2 hCp0_3 hMp0_3 hKp0_3 hCp0_4 hMp0_4 hKp0_4 hCp1_1 hMp1_1 hKp1_1 NN true hF) fun e W2 ⟨v, he, hv, hb⟩ => ?_
  subst hv
  refine ⟨_, he, ?_⟩
  refine post_kept (P := Tryz.prog) laid_ (b4 := 4) Tryz.underlying4 (f := Tryz.f6) (s := Rows.sheafOpensSpec) (ds := [d0, d1]) rfl hW' ?_ ?_ ?_ hb
  · kernel_rfl
  · rfl
  rw [Tryz.params6]; intro t ht; simp at ht; rcases ht with rfl | rfl <;> exact ⟨by kernel_rfl, of_decide_eq_true (by kernel_rfl)⟩
theorem proved : Rows.SheafOpensSaid :=
  OpenClaim.holds_of_wide 6 Tryz.f6 rfl rfl rfl rfl rfl rfl rfl ⟨rfl, rfl, rfl, rfl, rfl⟩ rfl rfl rfl rfl rfl (by kernel_rfl) Tryz.func6 (by kernel_rfl)
    (of_decide_eq_true (by kernel_rfl)) (by unfold Func.isWrapper; first | (rw [if_pos (by decide +kernel)]; kernel_rfl) | (rw [if_neg (by decide +kernel)]; exact ⟨rfl, rfl⟩))
    (fun os started H enc _ => lifted os started H enc)
#print axioms proved
end Go.Proofs.YtinkdlmimiefaaaGreat.lawSheafOpens
