/- SheafNarrows answers true at every input, and leaves what it reads as it was. No condition. By an AI agent; no person has read it. -/
import Derived.Test.YtinkdlmimiefaaaGreatRows
import Derived.Test.YtinkdlmimiefaaaGreatPM45
import Derived.Test.YtinkdlmimiefaaaGreatPNN
import Derived.Test.YtinkdlmimiefaaaGreatPN4
namespace Go.Proofs.YtinkdlmimiefaaaGreat.lawNarrows
open Go Go.ChangeShapes Go.WideShapes Go.RowKit Go.K Go.Proofs.YtinkdlmimiefaaaGreat.ends
set_option linter.unusedVariables false
section
variable {H : Type} {enc : TypeId × Value → H} {w : World} {base : Nat} {sp : Nat → Bool} {held : Bool}
set_option maxRecDepth 20000 in
theorem nums2_of {v : Value} {d : DataW H} {ps : List MemPlace} (hv : Value.okWide Tryz.prog w .any base 84 v) (h : DataW.Trod enc Tryz.prog w 0 sp held 84 v d ps) :
    ∃ a b c, v = .agg #[.int .i64 a, .int .i64 b, .int .i64 c] ∧ W64 b := by
  have hv' : ∃ cs, v = .agg cs ∧ cs.size = Tryz.prog.cellsOf 84 ∧ Row.okWide Tryz.prog w .any base 84 cs := by
    have := hv
    simp only [Value.okWide, Tryz.underlying84] at this
    exact this
  obtain ⟨cs, rfl, hsz, _⟩ := hv'
  obtain ⟨fuel, h⟩ := h
  have hcs : (Value.agg cs).cells.toList = cs.toList := rfl
  rw [hcs] at h
  obtain ⟨l⟩ := cs
  have hi := ints_of Tryz.underlying84 h
  obtain ⟨a, b, c, e⟩ := three_of h
  have e' : l = [.int .i64 a, .int .i64 b, .int .i64 c] := e
  subst e'
  obtain ⟨b', e1, w1⟩ := hi 1 (by omega)
  simp at e1
  subst e1
  exact ⟨a, _, c, rfl, w1⟩
end
set_option maxRecDepth 100000 in
theorem lifted (os : Os) (started : os.Started) (H : Type) (enc : TypeId × Value → H) :
    ReturnsInHanded {} Tryz.checked os 11 .any (Rows.sheafNarrowsSpec.pre6 enc Tryz.prog Tryz.f11 Rows.sheafNarrowsRow.domain false) (Rows.sheafNarrowsSpec.post enc Tryz.prog Tryz.f11 false true false false) := by
  refine returnsInHanded_of_change (C := Tryz.checked) own started (by kernel_rfl) Tryz.func11
    (ChangeSpec.witness6 (enc := enc) (C := Tryz.checked) false ⟨#[], #[.agg #[.int .i64 0, .int .i64 0, .slice none 0 0, .slice none 0 0, .slice none 0 0], .agg #[.int .i64 0, .int .i64 0, .int .i64 0]], []⟩ 8 (by kernel_rfl) (by kernel_rfl) (by kernel_rfl) (by kernel_rfl)) ?_
  intro W base args ds gs before hval0 hW hcnd _
  have hval : ∀ (j : Nat) t v, Tryz.f11.params[j]? = some t → args[j]? = some v → Value.okWide Tryz.prog W .any base t v := hval0
  have hW' := hW
  obtain ⟨p, q, hA0, hV, rfl, hfz, hnd⟩ := hW
  have hA : DataW.TrodAll enc Tryz.prog W 0 (fun _ => true) true Tryz.f11.params.toList args.toList ds p := hA0
  rw [Tryz.params11] at hA hval
  obtain ⟨v0, vs0, d0, ds0, p0, q0, hargs, rfl, rfl, h0, r0⟩ := trodAll_cons hA
  obtain ⟨v1, vs1, d1, ds1, p1, q1, rfl, rfl, rfl, h1, r1⟩ := trodAll_cons r0
  obtain ⟨rfl, rfl, rfl⟩ := trodAll_nil r1
  obtain rfl : args = #[v0, v1] := by cases args; simp_all
  obtain ⟨rfl, rfl⟩ := trodVars_none hV
  obtain ⟨a0, a1, A1, n1, m1, A2, n2, m2, A3, n3, m3, ls, ss, ps, rfl, hw, ⟨k1, k2, k3, k4⟩, ⟨l1, l2, l3, l4⟩, ⟨o1, o2, o3, o4⟩⟩ := raw_of (hval 0 78 _ rfl rfl) h0
  obtain ⟨x, y, z, rfl, hy⟩ := nums2_of (hval 1 84 _ rfl rfl) h1
  clear hA0 hval0
  refine Calls.mono (SheafNarrows_c W a0 a1 hw A1 n1 m1 A2 n2 m2 A3 n3 m3 ls ss ps k1 k2 k3 l1 l2 l3 o1 o2 o3 k4 l4 x y z hy) fun e W' ⟨v, he, hv, hb⟩ => ?_
  subst hv
  exact ⟨_, he, post_kept rfl hW' (by kernel_rfl) rfl (by rw [Tryz.params11]; intro t ht; simp at ht; rcases ht with rfl | rfl <;> exact ⟨by kernel_rfl, of_decide_eq_true (by kernel_rfl)⟩) hb⟩
theorem proved : Rows.SheafNarrowsSaid :=
  OpenClaim.holds_of_wide 11 Tryz.f11 rfl rfl rfl rfl rfl rfl rfl ⟨rfl, rfl, rfl, rfl, rfl⟩ rfl rfl rfl rfl rfl (by kernel_rfl) Tryz.func11 (by kernel_rfl)
    (of_decide_eq_true (by kernel_rfl)) (by unfold Func.isWrapper; first | (rw [if_pos (by decide +kernel)]; kernel_rfl) | (rw [if_neg (by decide +kernel)]; exact ⟨rfl, rfl⟩))
    (fun os started H enc _ => lifted os started H enc)
#print axioms proved
end Go.Proofs.YtinkdlmimiefaaaGreat.lawNarrows
