/- MillBounds: what is threshed, the flour, and the bundles of true numbers lie within the bounds. No condition. -/
import Derived.Test.YtfdjmhmjdihihaaPY1
namespace Go.K
open Go.RowKit
set_option linter.unusedVariables false
set_option linter.unusedSimpArgs false
theorem tmod_bd (n m : Int) (h : 0 < m) : -m < n.tmod m ∧ n.tmod m < m := by
  refine ⟨?_, Int.tmod_lt_of_pos n h⟩
  have := Int.lt_tmod_of_pos n h
  omega
theorem F59_eq (n m : Int) (h : 0 < m) (hm : m ≤ 1000000) : ∃ z, F59 n m = some z ∧ 0 ≤ z ∧ z < m := by
  have h1 := tmod_bd n m h
  unfold F59
  rw [gdO_pos h, ckO_pos (by unfold InR; omega)]
  exact ⟨_, rfl, Int.tmod_nonneg _ (by omega), Int.tmod_lt_of_pos _ h⟩
theorem gal_bd2 {b g : Int} (hb : 0 ≤ b ∧ b ≤ 2000) (hg : 0 ≤ g ∧ g ≤ 1000) : 0 ≤ (b * g).tdiv 100 ∧ (b * g).tdiv 100 ≤ 20000 := by
  have h1 := Int.mul_nonneg hb.1 hg.1
  have h2 := Int.mul_le_mul hb.2 hg.2 hg.1 (by omega : (0 : Int) ≤ 2000)
  rw [Int.tdiv_eq_ediv_of_nonneg h1]
  omega
theorem gal_mono {b b' g g' : Int} (h0 : 0 ≤ b) (h1 : b ≤ b') (h2 : 0 ≤ g) (h3 : g ≤ g') : (b * g).tdiv 100 ≤ (b' * g').tdiv 100 := by
  have e1 := Int.mul_nonneg h0 h2
  have e2 := Int.mul_le_mul h1 h3 h2 (by omega : (0 : Int) ≤ b')
  rw [Int.tdiv_eq_ediv_of_nonneg e1, Int.tdiv_eq_ediv_of_nonneg (by omega)]
  omega
theorem F26_ok {y : Yl} {r : Rg} (hy : vY y) (hr : isR r 2000) : F26 y r = some ((r.lo * y.lo).tdiv 100, (r.hi * y.hi).tdiv 100, 0) := by
  have hy' := hy
  have h' := hr
  unfold vY at hy'
  unfold isR at h'
  unfold F26
  rw [F69_eq, bindO_some, F73_eq, bindO_some, if_pos hy, decide_eq_true hr, if_pos rfl, if_pos rfl]
  unfold F74
  rw [F100_eq (by omega) (by omega), bindO_some, F100_eq (by omega) (by omega), bindO_some, bindO_some]
theorem F30_ok {y : Yl} {r : Rg} (hy : vY y) (hr : isR r 2000) : F30 y r = some (fw y.toll r.lo y.lo, fw y.toll r.hi y.hi, 0) := by
  have hy' := hy
  have h' := hr
  unfold vY at hy'
  unfold isR at h'
  have g1 := gal_bd (b := r.lo) (g := y.lo) (by omega) (by omega)
  have g2 := gal_bd (b := r.hi) (g := y.hi) (by omega) (by omega)
  unfold F30
  rw [F69_eq, bindO_some, F73_eq, bindO_some, if_pos hy, decide_eq_true hr, if_pos rfl, if_pos rfl]
  unfold F74
  rw [F100_eq (by omega) (by omega), bindO_some, F100_eq (by omega) (by omega), bindO_some, bindO_some, F76_eq (by omega) (by simp only; omega), bindO_some, F76_eq (by omega) (by simp only; omega), bindO_some]
  rfl
theorem F28_ok {y : Yl} {g : Int} (hy : vY y) (hg : 0 ≤ g ∧ g ≤ 20000) : F28 y g = some (g.tdiv y.toll, 0) := by
  have hy' := hy
  unfold vY at hy'
  unfold F28
  rw [F70_eq, bindO_some, F73_eq, bindO_some, if_pos hy, decide_eq_true hg, if_pos rfl, if_pos rfl, gdO_pos (by omega), ckO_pos (by unfold InR; omega)]
theorem loopB (N : Nat) {y : Yl} {r : Rg} {b0 : Int} (hy : vY y) (h0 : 0 ≤ b0 ∧ b0 ≤ 2000) (hm : may y b0 r) (hN : 1003 ≤ N) : ∀ (m : Nat) (lo hi v : Int), ((lo = -1 ∧ v ≤ b0) ∨ (0 ≤ lo ∧ lo ≤ b0 ∧ (b0 < v → b0 ≤ hi))) → 0 ≤ v → v ≤ 2001 → 2001 - v < m →
    ∃ lo' hi', F33l2 y r N m lo hi v = some (lo', hi', 0) ∧ lo' ≤ b0 ∧ b0 ≤ hi' := by
  intro m
  induction m with
  | zero => intro lo hi v _ _ h1 h2; omega
  | succ m ih =>
    intro lo hi v hr hv h1 h2
    show ∃ lo' hi', F33b2 y r N (F33l2 y r N m) lo hi v = some (lo', hi', 0) ∧ _
    unfold F33b2
    by_cases h : v ≤ 2000
    · obtain ⟨t, e, ht⟩ := F79_eq N (r := r) hy (b := v) (by omega) hN
      rw [if_pos h, e, bindO_some]
      cases t with
      | true =>
        rw [if_pos rfl]
        unfold F33j4 F33j3
        by_cases hlo : lo < 0
        · rw [if_pos hlo, ckO_pos (by unfold InR; omega)]
          exact ih _ _ _ (.inr ⟨by omega, by omega, fun _ => by omega⟩) (by omega) (by omega) (by omega)
        · rw [if_neg hlo, ckO_pos (by unfold InR; omega)]
          exact ih _ _ _ (.inr ⟨by omega, by omega, fun _ => by omega⟩) (by omega) (by omega) (by omega)
      | false =>
        have hne : v ≠ b0 := fun e => by subst e; exact absurd (ht.2 hm) (by decide)
        rw [if_neg (by decide)]
        unfold F33j3
        rw [ckO_pos (by unfold InR; omega)]
        refine ih _ _ _ ?_ (by omega) (by omega) (by omega)
        rcases hr with ⟨k1, k2⟩ | ⟨k1, k2, k3⟩
        · exact .inl ⟨k1, by omega⟩
        · exact .inr ⟨k1, k2, fun _ => k3 (by omega)⟩
    · rw [if_neg h]
      unfold F33j1
      rcases hr with ⟨k1, k2⟩ | ⟨k1, k2, k3⟩
      · omega
      · rw [if_neg (by omega)]
        exact ⟨lo, hi, rfl, k2, k3 (by omega)⟩
theorem F32_ok (N : Nat) {y : Yl} {r : Rg} {b0 : Int} (hy : vY y) (hr : isR r 20000) (h0 : 0 ≤ b0 ∧ b0 ≤ 2000) (hm : may y b0 r) (hN : 2100 ≤ N) : ∃ lo hi, F32 N y r = some (lo, hi, 0) ∧ lo ≤ b0 ∧ b0 ≤ hi := by
  obtain ⟨z, e, e'⟩ := F3233 N y r hN
  have h : ∃ lo hi, F33 N y r = some (lo, hi, 0) ∧ lo ≤ b0 ∧ b0 ≤ hi := by
    unfold F33
    rw [F20_eq, bindO_some, if_pos hy, if_pos rfl, F75_eq, bindO_some, decide_eq_true hr, if_pos rfl]
    exact loopB N hy h0 hm (by omega) N (-1) 0 0 (.inl ⟨rfl, h0.1⟩) (by omega) (by omega) (by omega)
  obtain ⟨lo, hi, e2, h⟩ := h
  rw [e'] at e2
  injection e2 with e2
  subst e2
  exact ⟨lo, hi, e, h⟩
theorem mkY {lo hi t : Int} (h : (0 ≤ lo ∧ lo ≤ hi ∧ hi ≤ 1000) ∧ 2 ≤ t ∧ t ≤ 100) : vY ⟨lo, hi, t⟩ := h
theorem mkR {lo hi m : Int} (h : 0 ≤ lo ∧ lo ≤ hi ∧ hi ≤ m) : isR ⟨lo, hi⟩ m := h
theorem bounds_any (N : Nat) (hN : 2100 ≤ N) (hs : F25 N = some true) (x : A6) (hf : -9223372036854775808 ≤ x.f ∧ x.f ≤ 9223372036854775807) : F8 N x = some true := by
  obtain ⟨a, ea, a1, a2⟩ := F59_eq x.a 600 (by omega) (by omega)
  obtain ⟨t, et, t1, t2⟩ := F59_eq x.b 99 (by omega) (by omega)
  obtain ⟨c, ec, c1, c2⟩ := F59_eq x.c 400 (by omega) (by omega)
  obtain ⟨d, ed, d1, d2⟩ := F59_eq x.d 1500 (by omega) (by omega)
  obtain ⟨e, ee, e1, e2⟩ := F59_eq x.e 500 (by omega) (by omega)
  obtain ⟨p, ep, p1, p2⟩ := F59_eq x.f (((a + c) - a) + 1) (by omega) (by omega)
  obtain ⟨q, eq, q1, q2⟩ := F59_eq (x.f.tdiv 7) (((d + e) - d) + 1) (by omega) (by omega)

  have hy : vY ⟨a, a + c, 2 + t⟩ := mkY (by omega)
  have hr : isR ⟨d, d + e⟩ 2000 := mkR (by omega)
  have hy2 : vY ⟨a + p, a + p, 2 + t⟩ := mkY (by omega)
  have hr2 : isR ⟨d + q, d + q⟩ 2000 := mkR (by omega)
  have hy3 : vY ⟨a, a, 2 + t⟩ := mkY (by omega)
  have hr3 : isR ⟨d, d⟩ 2000 := mkR (by omega)
  have hy4 : vY ⟨a + c, a + c, 2 + t⟩ := mkY (by omega)
  have hr4 : isR ⟨d + e, d + e⟩ 2000 := mkR (by omega)
  have g1 := gal_bd2 (b := d + q) (g := a + p) (by omega) (by omega)
  have g2 := div_bd (t := 2 + t) (g := ((d + q) * (a + p)).tdiv 100) (by omega) g1.1
  have m1 := gal_mono (b := d) (b' := d + q) (g := a) (g' := a + p) (by omega) (by omega) (by omega) (by omega)
  have m2 := gal_mono (b := d + q) (b' := d + e) (g := a + p) (g' := a + c) (by omega) (by omega) (by omega) (by omega)
  have g3 := gal_bd2 (b := d) (g := a) (by omega) (by omega)
  have n1 : fw (2 + t) d a ≤ fw (2 + t) (d + q) (a + p) := fl_mono (by omega) g3.1 m1
  have n2 : fw (2 + t) (d + q) (a + p) ≤ fw (2 + t) (d + e) (a + c) := fl_mono (by omega) g1.1 m2
  have hfw : fw (2 + t) (d + q) (a + p) = ((d + q) * (a + p)).tdiv 100 - (((d + q) * (a + p)).tdiv 100).tdiv (2 + t) := rfl
  have hr5 : isR ⟨fw (2 + t) (d + q) (a + p), fw (2 + t) (d + q) (a + p)⟩ 20000 := mkR (by omega)
  have hmay : may ⟨a, a + c, 2 + t⟩ (d + q) ⟨fw (2 + t) (d + q) (a + p), fw (2 + t) (d + q) (a + p)⟩ := ⟨a + p, by show a ≤ _; omega, by show _ ≤ a + c; omega, Int.le_refl _, Int.le_refl _⟩
  obtain ⟨lo, hi, e32, l1, l2⟩ := F32_ok N hy hr5 (b0 := d + q) (by omega) hmay hN
  unfold F8
  rw [ea, bindO_some, et, bindO_some, ckO_pos (by unfold InR; omega), ec, bindO_some, ckO_pos (by unfold InR; omega), ed, bindO_some, ee, bindO_some, ckO_pos (by unfold InR; omega), ckO_pos (by unfold InR; omega), ckO_pos (by unfold InR; omega), ep, bindO_some,
    ckO_pos (by unfold InR; omega), ckO_pos (by unfold InR; omega), ckO_pos (by unfold InR; omega), ckO_pos (by unfold InR; omega), eq, bindO_some, ckO_pos (by unfold InR; omega), F26_ok hy hr, bindO_some, F30_ok hy hr, bindO_some, F26_ok hy2 hr2, bindO_some, F30_ok hy2 hr2, bindO_some, F28_ok hy (by show 0 ≤ ((d + q) * (a + p)).tdiv 100 ∧ _; exact g1), bindO_some]
  dsimp only
  rw [e32, bindO_some]
  dsimp only
  rw [if_pos rfl, if_pos rfl, if_pos rfl, if_pos rfl, if_pos rfl, if_pos rfl, if_pos rfl, if_pos rfl, ckO_pos (by unfold InR; omega), if_pos (by omega), if_neg (by omega), if_neg (by omega), if_neg (by omega), if_neg (by omega), if_neg (by omega), if_neg (by omega), F30_ok hy3 hr3, bindO_some, F30_ok hy4 hr4, bindO_some]
  dsimp only
  rw [if_pos rfl, if_pos rfl, if_pos rfl, if_pos rfl, hs, bindO_some]
theorem bounds5 (x : A6) (hf : -9223372036854775808 ≤ x.f ∧ x.f ≤ 9223372036854775807) : F8 (0 + 2100) x = some true := bounds_any _ (by omega) (sane5 _) x hf
end Go.K
