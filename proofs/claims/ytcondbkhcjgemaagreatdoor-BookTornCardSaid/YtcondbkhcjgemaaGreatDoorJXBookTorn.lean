/- BookTorn answers true at every input, and leaves what it reads as it was. No condition. By an AI agent; no person has read it. -/
import Derived.Test.YtcondbkhcjgemaaGreatDoorRows
import Derived.Test.YtcondbkhcjgemaaGreatDoorJWm
import Derived.Test.YtcondbkhcjgemaaGreatDoorJO
import Derived.Test.YtcondbkhcjgemaaGreatDoorJYA
import Derived.Test.YtcondbkhcjgemaaGreatDoorJOg
import Derived.Test.YtcondbkhcjgemaaGreatDoorTie
import Derived.Test.YtcondbkhcjgemaaGreatDoorCards
import Derived.Stop.Joined
namespace Go.Proofs.YtcondbkhcjgemaaGreatDoor.lawBookTorn
open Go Go.ChangeShapes Go.WideShapes Go.RowKit Go.K
set_option linter.unusedVariables false
theorem own : ownKnob Tryz.prog.godebug = none := by kernel_rfl
set_option maxRecDepth 100000 in
set_option maxHeartbeats 1000000 in
theorem door_met (os : Os) (args : Array Value) : laidMetH Tryz.prog Rows.bookTornRow.laid ((World.doorLaid Tryz.prog 62 os).forCall (fun _ _ => 0) ⟨#[], args, []⟩).memory :=
  laidMetH_of_parts3 (fuel := 8) (laidMet_of_run' 8 (by kernel_rfl) (by kernel_rfl)) (by kernel_rfl) (by kernel_rfl)
set_option maxRecDepth 100000 in
set_option maxHeartbeats 1000000 in
theorem lifted (os : Os) (started : os.Started) (H : Type) (enc : TypeId × Value → H) :
    ReturnsInHanded {} Tryz.checked os 10 .any (fun w args => (Rows.bookTornSpec.pre enc Tryz.prog Tryz.f10 [] false w args ∧ laidMetH Tryz.prog Rows.bookTornRow.laid w) ∧ sizedMet enc Tryz.prog Tryz.f10 (OpenSpec.ofChange Rows.bookTornSpec) false w args)
      (Rows.bookTornSpec.post enc Tryz.prog Tryz.f10 false true false false) := by
  refine returnsInHanded_of_change_and (C := Tryz.checked) (X := fun w _ => laidMetH Tryz.prog Rows.bookTornRow.laid w) (fun _ _ _ hh h => h.of_heap hh) own started (by kernel_rfl) Tryz.func10
    (ChangeSpec.witness_shaped (enc := enc) (C := Tryz.checked) (os := os) (X := fun w _ => laidMetH Tryz.prog Rows.bookTornRow.laid w) false (World.doorLaid Tryz.prog 62 os) #[.slice none 0 0] 8 rfl (World.shaped_of_RefB (by kernel_rfl) (by kernel_rfl)) (by kernel_rfl) (by kernel_rfl) (by kernel_rfl) (door_met os _)) ?_
  intro W base args ds gs before hval0 hW _ hsz hL _
  have hval : ∀ (j : Nat) t v, Tryz.f10.params[j]? = some t → args[j]? = some v → Value.okWide Tryz.prog W .any base t v := hval0
  have hW' := hW
  obtain ⟨p, q, hA0, hV, rfl, hfz, hnd⟩ := hW
  have hA : DataW.TrodAll enc Tryz.prog W 0 (fun _ => true) true Tryz.f10.params.toList args.toList ds p := hA0
  rw [Tryz.params10] at hA hval
  obtain ⟨v0, vs0, d0, ds0, p0, q0, hargs, rfl, rfl, h0, r0⟩ := trodAll_cons hA
  obtain ⟨rfl, rfl, rfl⟩ := trodAll_nil r0
  obtain rfl : args = #[v0] := by cases args; simp_all
  obtain ⟨rfl, rfl⟩ := trodVars_none hV
  obtain ⟨xa0, xb0, xc0, rfl⟩ := okWide_slice Tryz.underlying115 (hval 0 115 _ rfl rfl)
  obtain ⟨fu0, h0⟩ := h0
  have hcs0 : (Value.slice xa0 xb0 xc0).cells.toList = [.slice xa0 xb0 xc0] := rfl
  rw [hcs0] at h0
  obtain ⟨Ap0, cp0, dp0, e0, ⟨hCp0, hMp0, hKp0, wp0⟩⟩ := row_of (q := (q117 W)) (f := eDsp) (by decide) eDsp_len Tryz.underlying115 c117 (fun h => el117_of h) h0
  injection e0 with ea0 eb0 ec0; subst xa0 xb0 xc0
  clear hA0 hval0
  have hlp0 : dp0.length = (dp0.map Dsp.p).length := (List.length_map _).symm
  rw [hlp0] at hW' ⊢
  have hG := gl_of hL
  obtain ⟨NN, hF⟩ : ∃ NN, F10 NN (dp0.map Dsp.p) = some true := ⟨100000000000000000000, F10_true _ (by rw [List.length_map]; exact hMp0) (by decide) fun s hs => by obtain ⟨d, hd, rfl⟩ := List.mem_map.1 hs; exact (wp0 d hd).2⟩
  refine Calls.mono (L10 W Ap0 cp0 (dp0.map Dsp.p) dp0 hG hCp0 rfl (fun s hs => (wp0 s hs).1) (by rw [List.length_map]; exact hMp0) (by rw [List.length_map]; exact hKp0) NN true hF) fun e W2 ⟨v, he, hv, hb⟩ => ?_
  subst hv
  refine ⟨_, he, ?_⟩
  refine post_kept (P := Tryz.prog) laid_ (b4 := 4) Tryz.underlying4 (f := Tryz.f10) (s := Rows.bookTornSpec) (ds := [d0]) rfl hW' ?_ ?_ ?_ hb.kit
  · kernel_rfl
  · rfl
  rw [Tryz.params10]; intro t ht; simp at ht; rcases ht with rfl <;> exact ⟨by kernel_rfl, of_decide_eq_true (by kernel_rfl)⟩
theorem proved : Rows.BookTornSaid :=
  OpenClaim.holds_of_wide 10 Tryz.f10 rfl rfl rfl rfl rfl rfl rfl ⟨rfl, rfl, rfl, rfl, rfl⟩ rfl rfl rfl rfl rfl (by kernel_rfl) Tryz.func10 (by kernel_rfl)
    (of_decide_eq_true (by kernel_rfl)) (by unfold Func.isWrapper; first | (rw [if_pos (by decide +kernel)]; kernel_rfl) | (rw [if_neg (by decide +kernel)]; exact ⟨rfl, rfl⟩))
    (fun os started H enc _ => lifted os started H enc)
#print axioms proved
theorem card_holds : Rows.BookTornCardSaid :=
  Claim7.holds_tied_plain_at .later [] [.data, .data, .data, .sentinel, .sentinel] true Rows.bookTornCard.stood.harness true
    proved (fun _ h => by cases h) (by kernel_rfl) (fun _ h => by cases h) bookTorn_row_tie rfl ⟨rfl, rfl⟩ (by kernel_rfl) rfl
    (fun f fn hf hfn => by
      obtain rfl : f = 10 := Option.some.inj ((show Tryz.prog.funcNamed Rows.bookTornRow.func = some 10 by kernel_rfl).symm.trans hf) |>.symm
      obtain rfl : fn = Tryz.f10 := (Option.some.inj (Tryz.func10.symm.trans hfn)).symm
      exact ⟨by kernel_rfl, fun j t ht => by
        rw [Tryz.params10] at ht
        have hm : t ∈ [115] := by simpa using Array.mem_of_getElem? ht
        have hall : ([115].all fun u => !Tryz.prog.wantsStandIn u) = true := by kernel_rfl
        exact (show Tryz.prog.wantsStandIn t = false by simpa using List.all_eq_true.1 hall t hm)⟩)
    (by kernel_rfl)
#print axioms card_holds
end Go.Proofs.YtcondbkhcjgemaaGreatDoor.lawBookTorn
