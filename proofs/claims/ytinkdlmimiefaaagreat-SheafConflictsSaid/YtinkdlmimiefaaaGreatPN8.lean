/- SheafConflicts answers true at every input, and leaves what it reads as it was. No condition. By an AI agent; no person has read it. -/
import Derived.Test.YtinkdlmimiefaaaGreatRows
import Derived.Test.YtinkdlmimiefaaaGreatPM42
import Derived.Test.YtinkdlmimiefaaaGreatPNN
import Derived.Test.YtinkdlmimiefaaaGreatPN4
namespace Go.Proofs.YtinkdlmimiefaaaGreat.lawConflicts
open Go Go.ChangeShapes Go.WideShapes Go.RowKit Go.K Go.Proofs.YtinkdlmimiefaaaGreat.ends
set_option linter.unusedVariables false
theorem c65 : Tryz.prog.cellsOf 65 = 2 := by kernel_rfl
set_option maxRecDepth 20000 in
theorem two_of {H : Type} {enc : TypeId × Value → H} {w : World} {base : Nat} {sp : Nat → Bool} {held : Bool} {n : Nat} {cs : List Value} {x : DataW H × List MemPlace} (h : DataW.trod enc Tryz.prog w base sp held n 65 cs = some x) : ∃ a b, cs = [.int .i64 a, .int .i64 b] := by
  obtain ⟨_, _, _, _, hl, _, _⟩ := DataW.trod_array Tryz.underlying65 h
  have hi := ints_of Tryz.underlying65 h
  rw [c65] at hl
  match cs, hl with
  | [v0, v1], _ =>
    obtain ⟨a0, e0, w0⟩ := hi 0 (by omega)
    obtain ⟨a1, e1, w1⟩ := hi 1 (by omega)
    simp at e0 e1
    subst e0; subst e1
    exact ⟨a0, a1, rfl⟩
set_option maxRecDepth 20000 in
theorem nums2_of {H : Type} {enc : TypeId × Value → H} {w : World} {base : Nat} {sp : Nat → Bool} {held : Bool} {v : Value} {d : DataW H} {ps : List MemPlace} (hv : Value.okWide Tryz.prog w .any base 65 v) (h : DataW.Trod enc Tryz.prog w 0 sp held 65 v d ps) :
    ∃ a b, v = .agg #[.int .i64 a, .int .i64 b] := by
  have hv' : ∃ cs, v = .agg cs ∧ cs.size = Tryz.prog.cellsOf 65 ∧ Row.okWide Tryz.prog w .any base 65 cs := by
    have := hv
    simp only [Value.okWide, Tryz.underlying65] at this
    exact this
  obtain ⟨cs, rfl, hsz, _⟩ := hv'
  obtain ⟨fuel, h⟩ := h
  have hcs : (Value.agg cs).cells.toList = cs.toList := rfl
  rw [hcs] at h
  obtain ⟨l⟩ := cs
  obtain ⟨a, b, e⟩ := two_of h
  have e' : l = [.int .i64 a, .int .i64 b] := e
  subst e'
  exact ⟨a, b, rfl⟩
set_option maxRecDepth 100000 in
theorem lifted (os : Os) (started : os.Started) (H : Type) (enc : TypeId × Value → H) :
    ReturnsInHanded {} Tryz.checked os 9 .any (Rows.sheafConflictsSpec.pre6 enc Tryz.prog Tryz.f9 Rows.sheafConflictsRow.domain false) (Rows.sheafConflictsSpec.post enc Tryz.prog Tryz.f9 false true false false) := by
  refine returnsInHanded_of_change (C := Tryz.checked) own started (by kernel_rfl) Tryz.func9
    (ChangeSpec.witness6 (enc := enc) (C := Tryz.checked) false ⟨#[], #[.agg #[.int .i64 0, .int .i64 0, .slice none 0 0, .slice none 0 0, .slice none 0 0], .agg #[.int .i64 0, .int .i64 0]], []⟩ 8 (by kernel_rfl) (by kernel_rfl) (by kernel_rfl) (by kernel_rfl)) ?_
  intro W base args ds gs before hval0 hW hcnd _
  have hval : ∀ (j : Nat) t v, Tryz.f9.params[j]? = some t → args[j]? = some v → Value.okWide Tryz.prog W .any base t v := hval0
  have hW' := hW
  obtain ⟨p, q, hA0, hV, rfl, hfz, hnd⟩ := hW
  have hA : DataW.TrodAll enc Tryz.prog W 0 (fun _ => true) true Tryz.f9.params.toList args.toList ds p := hA0
  rw [Tryz.params9] at hA hval
  obtain ⟨v0, vs0, d0, ds0, p0, q0, hargs, rfl, rfl, h0, r0⟩ := trodAll_cons hA
  obtain ⟨v1, vs1, d1, ds1, p1, q1, rfl, rfl, rfl, h1, r1⟩ := trodAll_cons r0
  obtain ⟨rfl, rfl, rfl⟩ := trodAll_nil r1
  obtain rfl : args = #[v0, v1] := by cases args; simp_all
  obtain ⟨rfl, rfl⟩ := trodVars_none hV
  obtain ⟨a0, a1, A1, n1, m1, A2, n2, m2, A3, n3, m3, ls, ss, ps, rfl, hw, ⟨k1, k2, k3, k4⟩, ⟨l1, l2, l3, l4⟩, ⟨o1, o2, o3, o4⟩⟩ := raw_of (hval 0 78 _ rfl rfl) h0
  obtain ⟨x, y, rfl⟩ := nums2_of (hval 1 65 _ rfl rfl) h1
  clear hA0 hval0
  refine Calls.mono (SheafConflicts_c W a0 a1 hw A1 n1 m1 A2 n2 m2 A3 n3 m3 ls ss ps k1 k2 k3 l1 l2 l3 o1 o2 o3 k4 l4 x y) fun e W' ⟨v, he, hv, hb⟩ => ?_
  subst hv
  exact ⟨_, he, post_kept rfl hW' (by kernel_rfl) rfl (by rw [Tryz.params9]; intro t ht; simp at ht; rcases ht with rfl | rfl <;> exact ⟨by kernel_rfl, of_decide_eq_true (by kernel_rfl)⟩) hb⟩
theorem proved : Rows.SheafConflictsSaid :=
  OpenClaim.holds_of_wide 9 Tryz.f9 rfl rfl rfl rfl rfl rfl rfl ⟨rfl, rfl, rfl, rfl, rfl⟩ rfl rfl rfl rfl rfl (by kernel_rfl) Tryz.func9 (by kernel_rfl)
    (of_decide_eq_true (by kernel_rfl)) (by unfold Func.isWrapper; first | (rw [if_pos (by decide +kernel)]; kernel_rfl) | (rw [if_neg (by decide +kernel)]; exact ⟨rfl, rfl⟩))
    (fun os started H enc _ => lifted os started H enc)
#print axioms proved
end Go.Proofs.YtinkdlmimiefaaaGreat.lawConflicts
