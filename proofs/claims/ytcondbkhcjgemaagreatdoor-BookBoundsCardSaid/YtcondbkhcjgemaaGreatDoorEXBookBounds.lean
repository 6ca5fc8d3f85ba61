/- BookBounds answers true at every input, and leaves what it reads as it was. No condition. By an AI agent; no person has read it. -/
import Derived.Test.YtcondbkhcjgemaaGreatDoorRows
import Derived.Test.YtcondbkhcjgemaaGreatDoorEWm
import Derived.Test.YtcondbkhcjgemaaGreatDoorEO
import Derived.Test.YtcondbkhcjgemaaGreatDoorEYA
import Derived.Test.YtcondbkhcjgemaaGreatDoorEOg
import Derived.Test.YtcondbkhcjgemaaGreatDoorTie
import Derived.Test.YtcondbkhcjgemaaGreatDoorCards
import Derived.Stop.Joined
namespace Go.Proofs.YtcondbkhcjgemaaGreatDoor.lawBookBounds
open Go Go.ChangeShapes Go.WideShapes Go.RowKit Go.K
set_option linter.unusedVariables false
theorem own : ownKnob Tryz.prog.godebug = none := by kernel_rfl
set_option maxRecDepth 100000 in
set_option maxHeartbeats 1000000 in
theorem door_met (os : Os) (args : Array Value) : laidMetH Tryz.prog Rows.bookBoundsRow.laid ((World.doorLaid Tryz.prog 62 os).forCall (fun _ _ => 0) ⟨#[], args, []⟩).memory :=
  laidMetH_of_parts3 (fuel := 8) (laidMet_of_run' 8 (by kernel_rfl) (by kernel_rfl)) (by kernel_rfl) (by kernel_rfl)
set_option maxRecDepth 100000 in
set_option maxHeartbeats 1000000 in
theorem lifted (os : Os) (started : os.Started) (H : Type) (enc : TypeId × Value → H) :
    ReturnsInHanded {} Tryz.checked os 6 .any (fun w args => (Rows.bookBoundsSpec.pre enc Tryz.prog Tryz.f6 [] false w args ∧ laidMetH Tryz.prog Rows.bookBoundsRow.laid w) ∧ sizedMet enc Tryz.prog Tryz.f6 (OpenSpec.ofChange Rows.bookBoundsSpec) false w args)
      (Rows.bookBoundsSpec.post enc Tryz.prog Tryz.f6 false true false false) := by
  refine returnsInHanded_of_change_and (C := Tryz.checked) (X := fun w _ => laidMetH Tryz.prog Rows.bookBoundsRow.laid w) (fun _ _ _ hh h => h.of_heap hh) own started (by kernel_rfl) Tryz.func6
    (ChangeSpec.witness_shaped (enc := enc) (C := Tryz.checked) (os := os) (X := fun w _ => laidMetH Tryz.prog Rows.bookBoundsRow.laid w) false (World.doorLaid Tryz.prog 62 os) #[.agg #[.slice none 0 0, .slice none 0 0, .slice none 0 0, .int .i64 0, .int .i64 0, .int .i64 0], .agg #[.slice none 0 0, .int .i64 0, .int .i64 0, .int .i64 0, .int .i64 0, .int .i64 0, .int .i64 0, .int .i64 0, .string (bts [])], .slice none 0 0] 8 rfl (World.shaped_of_RefB (by kernel_rfl) (by kernel_rfl)) (by kernel_rfl) (by kernel_rfl) (by kernel_rfl) (door_met os _)) ?_
  intro W base args ds gs before hval0 hW _ hsz hL _
  have hval : ∀ (j : Nat) t v, Tryz.f6.params[j]? = some t → args[j]? = some v → Value.okWide Tryz.prog W .any base t v := hval0
  have hW' := hW
  obtain ⟨p, q, hA0, hV, rfl, hfz, hnd⟩ := hW
  have hA : DataW.TrodAll enc Tryz.prog W 0 (fun _ => true) true Tryz.f6.params.toList args.toList ds p := hA0
  rw [Tryz.params6] at hA hval
  obtain ⟨v0, vs0, d0, ds0, p0, q0, hargs, rfl, rfl, h0, r0⟩ := trodAll_cons hA
  obtain ⟨v1, vs1, d1, ds1, p1, q1, rfl, rfl, rfl, h1, r1⟩ := trodAll_cons r0
  obtain ⟨v2, vs2, d2, ds2, p2, q2, rfl, rfl, rfl, h2, r2⟩ := trodAll_cons r1
  obtain ⟨rfl, rfl, rfl⟩ := trodAll_nil r2
  obtain rfl : args = #[v0, v1, v2] := by cases args; simp_all
  obtain ⟨rfl, rfl⟩ := trodVars_none hV
  obtain ⟨cs0, rfl, _⟩ := Go.WideShapes.okWide_struct Tryz.underlying63 (hval 0 63 _ rfl rfl)
  obtain ⟨fu0, h0⟩ := h0
  have hcs0 : (Value.agg cs0).cells.toList = cs0.toList := rfl
  rw [hcs0] at h0
  obtain ⟨cs0⟩ := cs0
  obtain ⟨Ap0_0, cp0_0, lp0_0, Ap0_1, cp0_1, lp0_1, Ap0_2, cp0_2, lp0_2, p0_3, p0_4, p0_5, e0, ⟨hCp0_0, hMp0_0, hKp0_0, hBp0_0, wp0_0⟩, ⟨hCp0_1, hMp0_1, hKp0_1, hBp0_1, wp0_1⟩, ⟨hCp0_2, hMp0_2, hKp0_2, hBp0_2, wp0_2⟩, wp0_3, wp0_4, wp0_5⟩ := ty63z_of h0 (wt_arg hsz (j := 0) rfl rfl)
  have e0 : cs0 = _ := e0
  subst e0
  obtain ⟨cs1, rfl, _⟩ := Go.WideShapes.okWide_struct Tryz.underlying49 (hval 1 49 _ rfl rfl)
  obtain ⟨fu1, h1⟩ := h1
  have hcs1 : (Value.agg cs1).cells.toList = cs1.toList := rfl
  rw [hcs1] at h1
  obtain ⟨cs1⟩ := cs1
  obtain ⟨Ap1_0, cp1_0, lp1_0, p1_1, p1_2, p1_3, p1_4, p1_5, p1_6, p1_7, p1_8, e1, ⟨hCp1_0, hMp1_0, hKp1_0, hBp1_0, wp1_0⟩, wp1_1, wp1_2, wp1_3, wp1_4, wp1_5, wp1_6, wp1_7, wp1_8⟩ := ty49z_of h1 (wt_arg hsz (j := 1) rfl rfl)
  have e1 : cs1 = _ := e1
  subst e1
  obtain ⟨xa2, xb2, xc2, rfl⟩ := okWide_slice Tryz.underlying64 (hval 2 64 _ rfl rfl)
  obtain ⟨fu2, h2⟩ := h2
  have hcs2 : (Value.slice xa2 xb2 xc2).cells.toList = [.slice xa2 xb2 xc2] := rfl
  rw [hcs2] at h2
  obtain ⟨Ap2, cp2, lp2, e2, ⟨hCp2, hMp2, hKp2, hBp2, wp2⟩⟩ := row_z (q := W64) (f := eInt) (by decide) cy Tryz.underlying64 c3 (by_ := 8) (by kernel_rfl) (fun h _ => intl_of Tryz.underlying3 h) h2 (wt_arg hsz (j := 2) rfl rfl)
  injection e2 with ea2 eb2 ec2; subst xa2 xb2 xc2
  clear hA0 hval0
  have hG := gl_of hL
  obtain ⟨NN, hF⟩ : ∃ NN, F6 NN lp0_0 lp0_1 lp0_2 p0_3 p0_4 p0_5 lp1_0 p1_1 p1_2 p1_3 p1_4 p1_5 p1_6 p1_7 p1_8 lp2 = some true := ⟨10000000000000000, F6_true _ _ _ _ _ _ _ _ _ _ _ _ _ _ _ _ (by omega) (by omega) (by omega) (by omega) (fun s hs => by have := (wp0_0 s hs).2.2; unfold SZ at this; omega) (fun s hs => by have := (wp0_1 s hs).2.2; unfold SZ at this; omega) (fun s hs => by have := (wp0_2 s hs).2.2; unfold SZ at this; omega)⟩
  refine Calls.mono (L6 W Ap0_0 cp0_0 lp0_0 Ap0_1 cp0_1 lp0_1 Ap0_2 cp0_2 lp0_2 p0_3 p0_4 p0_5 Ap1_0 cp1_0 lp1_0 p1_1 p1_2 p1_3 p1_4 p1_5 p1_6 p1_7 p1_8 Ap2 cp2 lp2 hG hCp0_0 hMp0_0 hKp0_0 hCp0_1 hMp0_1 hKp0_1 hCp0_2 hMp0_2 hKp0_2 hCp1_0 hMp1_0 hKp1_0 hCp2 hMp2 hKp2 NN true hF) fun e W2 ⟨v, he, hv, hb⟩ => ?_
  subst hv
  refine ⟨_, he, ?_⟩
  refine post_kept (P := Tryz.prog) laid_ (b4 := 4) Tryz.underlying4 (f := Tryz.f6) (s := Rows.bookBoundsSpec) (ds := [d0, d1, d2]) rfl hW' ?_ ?_ ?_ hb.kit
  · kernel_rfl
  · rfl
  rw [Tryz.params6]; intro t ht; simp at ht; rcases ht with rfl | rfl | rfl <;> exact ⟨by kernel_rfl, of_decide_eq_true (by kernel_rfl)⟩
theorem proved : Rows.BookBoundsSaid :=
  OpenClaim.holds_of_wide 6 Tryz.f6 rfl rfl rfl rfl rfl rfl rfl ⟨rfl, rfl, rfl, rfl, rfl⟩ rfl rfl rfl rfl rfl (by kernel_rfl) Tryz.func6 (by kernel_rfl)
    (of_decide_eq_true (by kernel_rfl)) (by unfold Func.isWrapper; first | (rw [if_pos (by decide +kernel)]; kernel_rfl) | (rw [if_neg (by decide +kernel)]; exact ⟨rfl, rfl⟩))
    (fun os started H enc _ => lifted os started H enc)
#print axioms proved
theorem card_holds : Rows.BookBoundsCardSaid :=
  Claim7.holds_tied_plain_at .later [] [.data, .data, .data, .sentinel, .sentinel] true Rows.bookBoundsCard.stood.harness true
    proved (fun _ h => by cases h) (by kernel_rfl) (fun _ h => by cases h) bookBounds_row_tie rfl ⟨rfl, rfl⟩ (by kernel_rfl) rfl
    (fun f fn hf hfn => by
      obtain rfl : f = 6 := Option.some.inj ((show Tryz.prog.funcNamed Rows.bookBoundsRow.func = some 6 by kernel_rfl).symm.trans hf) |>.symm
      obtain rfl : fn = Tryz.f6 := (Option.some.inj (Tryz.func6.symm.trans hfn)).symm
      exact ⟨by kernel_rfl, fun j t ht => by
        rw [Tryz.params6] at ht
        have hm : t ∈ [63, 49, 64] := by simpa using Array.mem_of_getElem? ht
        have hall : ([63, 49, 64].all fun u => !Tryz.prog.wantsStandIn u) = true := by kernel_rfl
        exact (show Tryz.prog.wantsStandIn t = false by simpa using List.all_eq_true.1 hall t hm)⟩)
    (by kernel_rfl)
#print axioms card_holds
end Go.Proofs.YtcondbkhcjgemaaGreatDoor.lawBookBounds
