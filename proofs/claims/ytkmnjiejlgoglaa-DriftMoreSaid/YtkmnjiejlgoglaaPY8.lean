/- DriftLeast answers true: the sharing that is found is the best one, and walls are right. No condition. -/
import Derived.Test.YtkmnjiejlgoglaaPY7
namespace Go.K
open Go.RowKit
set_option linter.unusedVariables false
set_option linter.unusedSimpArgs false
theorem mt_trans {a b c : Gn} (ha : 0 < a.den) (hb : 0 < b.den) (hc : 0 < c.den) (h1 : mt a b) (h2 : mt b c) : mt a c := by
  unfold mt at *
  have e1 := Int.mul_lt_mul_of_pos_right h1 hc
  have e2 := Int.mul_lt_mul_of_pos_right h2 ha
  have f1 : b.num * a.den * c.den = b.num * c.den * a.den := by ac_rfl
  have f2 : a.num * b.den * c.den = a.num * c.den * b.den := by ac_rfl
  have f3 : c.num * b.den * a.den = c.num * a.den * b.den := by ac_rfl
  have : c.num * a.den * b.den < a.num * c.den * b.den := by omega
  exact Int.lt_of_mul_lt_mul_right this (by omega)
theorem mt_of_not {a g t : Gn} (ha : 0 < a.den) (hg : 0 < g.den) (ht : 0 < t.den) (h1 : ¬ mt a g) (h2 : mt a t) : mt g t := by
  unfold mt at *
  have e1 := Int.mul_le_mul_of_nonneg_right (Int.not_lt.1 h1) (show 0 ≤ t.den by omega)
  have e2 := Int.mul_lt_mul_of_pos_right h2 hg
  have f1 : a.num * g.den * t.den = a.num * t.den * g.den := by ac_rfl
  have f2 : g.num * a.den * t.den = g.num * t.den * a.den := by ac_rfl
  have f3 : t.num * a.den * g.den = t.num * g.den * a.den := by ac_rfl
  have : t.num * g.den * a.den < g.num * t.den * a.den := by omega
  exact Int.lt_of_mul_lt_mul_right this (by omega)
theorem mt_ge {l g m : Gn} (hm : 0 < m.den) (hg : 0 < g.den) (hl : 0 < l.den) (h1 : ¬ mt m g) (h2 : mt l g) : mt l m := by
  unfold mt at *
  have e1 := Int.mul_le_mul_of_nonneg_right (Int.not_lt.1 h1) (show 0 ≤ l.den by omega)
  have e2 := Int.mul_lt_mul_of_pos_right h2 hm
  have f1 : m.num * g.den * l.den = m.num * l.den * g.den := by ac_rfl
  have f2 : g.num * m.den * l.den = g.num * l.den * m.den := by ac_rfl
  have f3 : l.num * g.den * m.den = l.num * m.den * g.den := by ac_rfl
  have : m.num * l.den * g.den < l.num * m.den * g.den := by omega
  exact Int.lt_of_mul_lt_mul_right this (by omega)
theorem lstG_least : ∀ (r : List Gn) (m : Gn), (∀ g ∈ m :: r, 0 < g.den) → ∀ g ∈ m :: r, ¬ mt (lstG m r) g
  | [], m, hd, g, hg => by
    simp only [List.mem_singleton] at hg; subst hg
    unfold lstG mt; omega
  | x :: r, m, hd, g, hg => by
    have hl := lstG_mem r
    unfold lstG
    by_cases hm : mt m x
    · rw [if_pos hm]
      have ih := lstG_least r x (fun g hg => hd g (by simp at hg ⊢; rcases hg with h | h <;> simp [h]))
      simp only [List.mem_cons] at hg
      rcases hg with rfl | hg
      · intro hc
        have d1 := hd _ (show lstG x r ∈ g :: x :: r by have := hl x; simp at this ⊢; rcases this with h | h <;> simp [h])
        exact ih x (by simp) (mt_trans d1 (hd g (by simp)) (hd x (by simp)) hc hm)
      · exact ih g (by simp only [List.mem_cons]; exact hg)
    · rw [if_neg hm]
      have ih := lstG_least r m (fun g hg => hd g (by simp at hg ⊢; rcases hg with h | h <;> simp [h]))
      simp only [List.mem_cons] at hg
      rcases hg with rfl | rfl | hg
      · exact ih g (by simp)
      · intro hc
        have d1 := hd _ (show lstG m r ∈ m :: g :: r by have := hl m; simp at this ⊢; rcases this with h | h <;> simp [h])
        exact ih m (by simp) (mt_ge (hd m (by simp)) (hd g (by simp)) d1 hm hc)
      · exact ih g (by simp [hg])
theorem sm_vGn {g : Gn} (h : smG g ∧ 0 ≤ g.num) : vGn g := by unfold smG at h; unfold vGn; omega
def cmpG (a b : Gn) : Int := if mt b a then -1 else if mt a b then 1 else 0
theorem F33_eq (a b : Gn) : F33 a b = some (if vGn a then (if vGn b then (cmpG a b, 0) else (0, 1)) else (0, 1)) := by
  unfold F33
  simp only [F78_eq, bindO_some, decide_eq_true_eq]
  by_cases ha : vGn a
  · rw [if_pos ha, if_pos ha]
    by_cases hb : vGn b
    · have ha' := ha; have hb' := hb
      unfold vGn at ha' hb'
      rw [if_pos hb, if_pos hb, F79_eq (by omega) (by omega) (by omega) (by omega), bindO_some]; rfl
    · rw [if_neg hb, if_neg hb]
  · rw [if_neg ha, if_neg ha]
theorem F33_vv {a b : Gn} (ha : vGn a) (hb : vGn b) : F33 a b = some (cmpG a b, 0) := by rw [F33_eq, if_pos ha, if_pos hb]
theorem cmpG_pos {a b : Gn} : 0 < cmpG a b ↔ mt a b := cmp_pos
end Go.K
