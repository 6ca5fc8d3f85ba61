/- Closed forms of what mill answers of yields, of the program and of the reference, and MillYields. No condition. -/
import Derived.Test.YtfdjmhmjdihihaaPD
import Derived.KernelRfl
namespace Go.K
open Go.RowKit
set_option linter.unusedVariables false
set_option linter.unusedSimpArgs false
theorem bindO_some {α β : Type} (x : α) (k : α → Option β) : bindO (some x) k = k x := rfl
theorem gdO_pos {β : Type} {p : Prop} [Decidable p] {k : Option β} (h : p) : gdO p k = k := if_pos h
theorem ckO_pos {β : Type} {n : Int} {k : Option β} (h : InR n) : ckO n k = k := if_pos h
/-! the small checks -/
def isR (r : Rg) (m : Int) : Prop := 0 ≤ r.lo ∧ r.lo ≤ r.hi ∧ r.hi ≤ m
instance (r : Rg) (m : Int) : Decidable (isR r m) := by unfold isR; infer_instance
def vY (y : Yl) : Prop := (0 ≤ y.lo ∧ y.lo ≤ y.hi ∧ y.hi ≤ 1000) ∧ 2 ≤ y.toll ∧ y.toll ≤ 100
instance (y : Yl) : Decidable (vY y) := by unfold vY; infer_instance
theorem F69_eq (r : Rg) (m : Int) : F69 r m = some (decide (isR r m)) := by
  unfold F69 isR
  by_cases h1 : 0 ≤ r.lo <;> by_cases h2 : r.lo ≤ r.hi <;> by_cases h3 : r.hi ≤ m <;> simp [h1, h2, h3]
theorem F75_eq (r : Rg) (m : Int) : F75 r m = some (decide (isR r m)) := F69_eq r m
theorem F70_eq (a b c : Int) : F70 a b c = some (decide (b ≤ a ∧ a ≤ c)) := by
  unfold F70
  by_cases h1 : b ≤ a <;> by_cases h2 : a ≤ c <;> simp [h1, h2]
theorem F71_eq (a b c : Int) : F71 a b c = some (decide (b ≤ a ∧ a ≤ c)) := F70_eq a b c
theorem F19_eq (y : Yl) : F19 y = some (if vY y then 0 else 50) := by
  unfold F19; rw [F69_eq, bindO_some]
  by_cases h1 : isR ⟨y.lo, y.hi⟩ 1000
  · rw [decide_eq_true h1, if_pos rfl, F70_eq, bindO_some]
    by_cases h2 : 2 ≤ y.toll ∧ y.toll ≤ 100
    · rw [decide_eq_true h2, if_pos rfl, if_pos (show vY y from ⟨h1, h2⟩)]
    · rw [decide_eq_false h2, if_neg (by decide), if_neg (show ¬ vY y from fun h => h2 h.2)]
  · rw [decide_eq_false h1, if_neg (by decide), if_neg (show ¬ vY y from fun h => h1 h.1)]
theorem F20_eq (y : Yl) : F20 y = some (if vY y then 0 else 50) := by
  unfold F20 vY; simp only [F71_eq, bindO_some]
  repeat' split
  all_goals simp_all
  all_goals omega
theorem F73_eq (y : Yl) (b : Bool) : F73 y b = some (if vY y then (if b = true then 0 else 58) else 50) := by
  unfold F73; rw [F19_eq, bindO_some]
  by_cases h : vY y
  · simp only [if_pos h, if_true]; split <;> rfl
  · simp only [if_neg h]; rfl
/-! flour -/
def fl (t g : Int) : Int := g - g.tdiv t
def fw (t b g : Int) : Int := fl t ((b * g).tdiv 100)
theorem fl_mono {t g g' : Int} (ht : 1 ≤ t) (h0 : 0 ≤ g) (h : g ≤ g') : fl t g ≤ fl t g' := by
  unfold fl
  rw [Int.tdiv_eq_ediv_of_nonneg h0, Int.tdiv_eq_ediv_of_nonneg (by omega)]
  have h1 : g' ≤ g + (g' - g) * t := by
    have := Int.mul_le_mul_of_nonneg_left ht (show 0 ≤ g' - g by omega)
    omega
  have h2 : g' / t ≤ (g + (g' - g) * t) / t := Int.ediv_le_ediv (by omega) h1
  rw [Int.add_mul_ediv_right _ _ (by omega)] at h2
  omega
theorem div_bd {t g : Int} (ht : 1 ≤ t) (h0 : 0 ≤ g) : 0 ≤ g.tdiv t ∧ g.tdiv t ≤ g := by
  rw [Int.tdiv_eq_ediv_of_nonneg h0]
  exact ⟨Int.ediv_nonneg h0 (by omega), Int.ediv_le_self _ h0⟩
theorem gal_bd {b g : Int} (hb : 0 ≤ b ∧ b ≤ 2000) (hg : 0 ≤ g ∧ g ≤ 1001) : (0 ≤ b * g ∧ b * g ≤ 2002000) ∧ 0 ≤ (b * g).tdiv 100 ∧ (b * g).tdiv 100 ≤ 20020 := by
  have h1 := Int.mul_nonneg hb.1 hg.1
  have h2 := Int.mul_le_mul hb.2 hg.2 hg.1 (by omega : (0 : Int) ≤ 2000)
  rw [Int.tdiv_eq_ediv_of_nonneg h1]
  omega
theorem fw_mono {t b g g' : Int} (ht : 1 ≤ t) (hb : 0 ≤ b) (h0 : 0 ≤ g) (h : g ≤ g') : fw t b g ≤ fw t b g' := by
  have h1 := Int.mul_nonneg hb h0
  have h2 := Int.mul_le_mul_of_nonneg_left h hb
  refine fl_mono ht ?_ ?_
  · rw [Int.tdiv_eq_ediv_of_nonneg h1]; omega
  · rw [Int.tdiv_eq_ediv_of_nonneg h1, Int.tdiv_eq_ediv_of_nonneg (by omega)]; omega
theorem F100_eq {b g : Int} (hb : 0 ≤ b ∧ b ≤ 2000) (hg : 0 ≤ g ∧ g ≤ 1001) : F100 g b = some ((b * g).tdiv 100) := by
  have := gal_bd hb hg
  unfold F100; rw [ckO_pos (by unfold InR; omega)]
theorem F76_eq {y : Yl} {g : Int} (ht : 2 ≤ y.toll) (hg : 0 ≤ g ∧ g ≤ 1000000) : F76 y g = some (fl y.toll g) := by
  have := div_bd (t := y.toll) (by omega) hg.1
  unfold F76 fl; rw [gdO_pos (by omega), ckO_pos (by unfold InR; omega), ckO_pos (by unfold InR; omega)]
theorem F101_eq (N : Nat) {lo hi t b g : Int} (ht : 2 ≤ t) (hb : 0 ≤ b ∧ b ≤ 2000) (hg : 0 ≤ g ∧ g ≤ 1001) : F101 N g lo hi t b = some (fw t b g) := by
  have h := gal_bd hb hg
  unfold F101; rw [F100_eq hb hg, bindO_some, F76_eq ht (by omega), bindO_some]; rfl
theorem F77_eq {y : Yl} {b g : Int} (ht : 2 ≤ y.toll) (hb : 0 ≤ b ∧ b ≤ 2000) (hg : 0 ≤ g ∧ g ≤ 1001) : F77 y b g = some (fw y.toll b g) := by
  have h := gal_bd hb hg
  have := div_bd (t := y.toll) (by omega) h.2.1
  unfold F77 fw fl; rw [ckO_pos (by unfold InR; omega), gdO_pos (by omega), ckO_pos (by unfold InR; omega), ckO_pos (by unfold InR; omega)]
/-! the search -/
def may (y : Yl) (b : Int) (r : Rg) : Prop := ∃ g, y.lo ≤ g ∧ g ≤ y.hi ∧ r.lo ≤ fw y.toll b g ∧ fw y.toll b g ≤ r.hi
theorem may_at {y : Yl} {b : Int} {r : Rg} (hy : vY y) (hb : 0 ≤ b) {s : Int} (hs : y.lo ≤ s ∧ s ≤ y.hi) (h1 : ∀ x, y.lo ≤ x → x < s → fw y.toll b x < r.lo) (h2 : r.lo ≤ fw y.toll b s) : fw y.toll b s ≤ r.hi ↔ may y b r := by
  unfold vY at hy
  constructor
  · exact fun h => ⟨s, hs.1, hs.2, h2, h⟩
  · rintro ⟨g, g1, g2, g3, g4⟩
    rcases Int.lt_or_le g s with h | h
    · have := h1 g g1 h; omega
    · have := fw_mono (t := y.toll) (by omega) hb (by omega) h; omega
theorem F102l1_eq {lo hi t b flo nn : Int} (N : Nat) (ht : 2 ≤ t) (hb : 0 ≤ b ∧ b ≤ 2000) (h0 : 0 ≤ lo) (hn : lo + nn ≤ 1001) (hnn : nn ≤ 2000) : ∀ (m : Nat) (i j : Int), 0 ≤ i → i ≤ j → j ≤ nn → j - i < m →
    (∀ x, 0 ≤ x → x < i → fw t b (lo + x) < flo) → (∀ x, j ≤ x → x < nn → flo ≤ fw t b (lo + x)) →
    ∃ s, F102l1 lo hi t b flo N m i j = some s ∧ (0 ≤ s ∧ s ≤ nn) ∧ (∀ x, 0 ≤ x → x < s → fw t b (lo + x) < flo) ∧ (∀ x, s ≤ x → x < nn → flo ≤ fw t b (lo + x)) := by
  intro m
  induction m with
  | zero => intro i j h1 h2 h3 h4; omega
  | succ m ih =>
    intro i j h1 h2 h3 h4 h5 h6
    show ∃ s, F102b1 lo hi t b flo N (F102l1 lo hi t b flo N m) i j = some s ∧ _
    unfold F102b1
    by_cases h : i < j
    · rw [if_pos h, ckO_pos (by unfold InR; omega), gdO_pos (by omega), ckO_pos (by unfold InR; omega), F101_eq N ht hb (by omega), bindO_some]
      by_cases hf : flo ≤ fw t b (lo + (i + j) / 2)
      · rw [if_pos hf]
        unfold F102j2
        rw [if_pos rfl]
        refine ih i ((i + j) / 2) h1 (by omega) (by omega) (by omega) h5 fun x k1 k2 => ?_
        have := fw_mono (t := t) (b := b) (g := lo + (i + j) / 2) (g' := lo + x) (by omega) hb.1 (by omega) (by omega)
        omega
      · rw [if_neg hf]
        unfold F102j2
        rw [if_neg (by decide), ckO_pos (by unfold InR; omega)]
        refine ih ((i + j) / 2 + 1) j (by omega) (by omega) h3 (by omega) (fun x k1 k2 => ?_) h6
        have := fw_mono (t := t) (b := b) (g := lo + x) (g' := lo + (i + j) / 2) (by omega) hb.1 (by omega) (by omega)
        omega
    · rw [if_neg h]
      have e : i = j := by omega
      subst e
      exact ⟨i, rfl, ⟨h1, h3⟩, h5, h6⟩
theorem F78_eq (N : Nat) {y : Yl} {b : Int} {r : Rg} (hy : vY y) (hb : 0 ≤ b ∧ b ≤ 2000) (hN : 1003 ≤ N) : ∃ t, F78 N y b r = some t ∧ (t = true ↔ may y b r) := by
  have hy' := hy
  unfold vY at hy'
  unfold F78
  rw [ckO_pos (by unfold InR; omega), ckO_pos (by unfold InR; omega)]
  obtain ⟨s, e, hs, k1, k2⟩ := F102l1_eq (lo := y.lo) (hi := y.hi) (t := y.toll) (b := b) (flo := r.lo) (nn := y.hi - y.lo + 1) N (by omega) hb (by omega) (by omega) (by omega) N 0 (y.hi - y.lo + 1) (by omega) (by omega) (by omega) (by omega) (fun x h1 h2 => by omega) (fun x h1 h2 => by omega)
  unfold F102
  rw [e, bindO_some, ckO_pos (by unfold InR; omega)]
  by_cases h : y.lo + s ≤ y.hi
  · rw [if_pos h, F101_eq N (by omega) hb (by omega), bindO_some]
    have hm := may_at (r := r) hy hb.1 (s := y.lo + s) ⟨by omega, h⟩ (fun x h1 h2 => by
      have := k1 (x - y.lo) (by omega) (by omega)
      rwa [show y.lo + (x - y.lo) = x by omega] at this) (k2 s (Int.le_refl _) (by omega))
    by_cases hh : fw y.toll b (y.lo + s) ≤ r.hi
    · rw [if_pos hh]; exact ⟨true, rfl, by simpa using hm.1 hh⟩
    · rw [if_neg hh]; exact ⟨false, rfl, by simpa using fun h => hh (hm.2 h)⟩
  · rw [if_neg h]
    refine ⟨false, rfl, ?_⟩
    simp only [Bool.false_eq_true, false_iff]
    rintro ⟨g, g1, g2, g3, g4⟩
    have := k1 (g - y.lo) (by omega) (by omega)
    rw [show y.lo + (g - y.lo) = g by omega] at this
    omega
theorem F79l2_eq {y : Yl} {b : Int} {r : Rg} (hy : vY y) (hb : 0 ≤ b ∧ b ≤ 2000) : ∀ (m : Nat) (i j : Int), y.lo ≤ i → i ≤ j → j ≤ y.hi → j - i < m →
    (∀ x, y.lo ≤ x → x < i → fw y.toll b x < r.lo) → (∀ x, j ≤ x → x ≤ y.hi → r.lo ≤ fw y.toll b x) →
    ∃ t, F79l2 y b r m i j = some t ∧ (t = true ↔ may y b r) := by
  intro m
  have hy' := hy
  unfold vY at hy'
  induction m with
  | zero => intro i j h1 h2 h3 h4; omega
  | succ m ih =>
    intro i j h1 h2 h3 h4 h5 h6
    show ∃ t, F79b2 y b r (F79l2 y b r m) i j = some t ∧ _
    unfold F79b2
    by_cases h : i < j
    · rw [if_pos h, ckO_pos (by unfold InR; omega), Int.tdiv_eq_ediv_of_nonneg (show 0 ≤ i + j by omega), F77_eq (by omega) hb (by omega), bindO_some]
      by_cases hf : r.lo ≤ fw y.toll b ((i + j) / 2)
      · rw [if_pos hf]
        refine ih i ((i + j) / 2) h1 (by omega) (by omega) (by omega) h5 fun x k1 k2 => ?_
        have := fw_mono (t := y.toll) (b := b) (g := (i + j) / 2) (g' := x) (by omega) hb.1 (by omega) (by omega)
        omega
      · rw [if_neg hf, ckO_pos (by unfold InR; omega)]
        refine ih ((i + j) / 2 + 1) j (by omega) (by omega) h3 (by omega) (fun x k1 k2 => ?_) h6
        have := fw_mono (t := y.toll) (b := b) (g := x) (g' := (i + j) / 2) (by omega) hb.1 (by omega) (by omega)
        omega
    · rw [if_neg h]
      have e : i = j := by omega
      subst e
      unfold F79j1
      rw [F77_eq (by omega) hb (by omega), bindO_some]
      have hm := may_at (r := r) hy hb.1 ⟨h1, h3⟩ h5 (h6 i (Int.le_refl _) h3)
      by_cases hh : fw y.toll b i ≤ r.hi
      · rw [if_pos hh]; exact ⟨true, rfl, by simpa using hm.1 hh⟩
      · rw [if_neg hh]; exact ⟨false, rfl, by simpa using fun h => hh (hm.2 h)⟩
theorem F79_eq (N : Nat) {y : Yl} {b : Int} {r : Rg} (hy : vY y) (hb : 0 ≤ b ∧ b ≤ 2000) (hN : 1003 ≤ N) : ∃ t, F79 N y b r = some t ∧ (t = true ↔ may y b r) := by
  have hy' := hy
  unfold vY at hy'
  unfold F79
  rw [F77_eq (by omega) hb (by omega), bindO_some]
  by_cases h : fw y.toll b y.hi < r.lo
  · rw [if_pos h]
    refine ⟨false, rfl, ?_⟩
    simp only [Bool.false_eq_true, false_iff]
    rintro ⟨g, g1, g2, g3, g4⟩
    have := fw_mono (t := y.toll) (b := b) (g := g) (g' := y.hi) (by omega) hb.1 (by omega) g2
    omega
  · rw [if_neg h]
    refine F79l2_eq hy hb N y.lo y.hi (Int.le_refl _) (by omega) (Int.le_refl _) (by omega) (fun x h1 h2 => by omega) fun x h1 h2 => ?_
    have e : x = y.hi := by omega
    subst e; omega
theorem F7879 (N : Nat) {y : Yl} {b : Int} {r : Rg} (hy : vY y) (hb : 0 ≤ b ∧ b ≤ 2000) (hN : 1003 ≤ N) : ∃ t, F78 N y b r = some t ∧ F79 N y b r = some t := by
  obtain ⟨t, e, h⟩ := F78_eq N (r := r) hy hb hN
  obtain ⟨u, e', h'⟩ := F79_eq N (r := r) hy hb hN
  have : t = u := by
    rw [Bool.eq_iff_iff]; exact h.trans h'.symm
  subst this
  exact ⟨t, e, e'⟩
/-! bundles -/
def relT (told : List Int) (lo hi : Int) : Prop := (told = [] ∧ lo = -1 ∧ hi = 0) ∨ (told[0]? = some lo ∧ 0 ≤ lo ∧ told[told.length - 1]? = some hi)
theorem ends {told : List Int} {lo hi : Int} (h : relT told lo hi) (hl : told.length ≤ 2001) : ∃ z, F32j1 told = some z ∧ F33j1 lo hi = some z := by
  unfold F32j1 F33j1
  rcases h with ⟨rfl, rfl, rfl⟩ | ⟨h1, h2, h3⟩
  · exact ⟨(0, 0, 3), rfl, rfl⟩
  · have hp : told ≠ [] := fun e => by subst e; cases h1
    have hp' : 0 < told.length := List.length_pos_iff.2 hp
    rw [if_neg (by omega), h1, bindO_some, ckO_pos (by unfold InR; omega), gdO_pos (by omega), show ((told.length : Int) - 1).toNat = told.length - 1 by omega, h3, bindO_some, if_neg (by omega)]
    exact ⟨_, rfl, rfl⟩
theorem relT_more {told : List Int} {lo hi v : Int} (h : relT told lo hi) (hv : 0 ≤ v) : relT (told ++ [v]) (if lo < 0 then v else lo) v := by
  refine .inr ?_
  rcases h with ⟨rfl, rfl, rfl⟩ | ⟨h1, h2, h3⟩
  · simp [hv]
  · have hp : told ≠ [] := fun e => by subst e; cases h1
    have hp' : 0 < told.length := List.length_pos_iff.2 hp
    rw [if_neg (by omega)]
    refine ⟨by rw [List.getElem?_append_left hp']; exact h1, h2, by simp⟩
theorem loops (N : Nat) {y : Yl} {r : Rg} (hy : vY y) (hN : 1003 ≤ N) : ∀ (m : Nat) (told : List Int) (lo hi v : Int), relT told lo hi → 0 ≤ v → v ≤ 2001 → (told.length : Int) ≤ v → 2001 - v < m →
    ∃ z, F32l2 y r N m told v = some z ∧ F33l2 y r N m lo hi v = some z := by
  intro m
  induction m with
  | zero => intro told lo hi v _ _ h1 _ h2; omega
  | succ m ih =>
    intro told lo hi v hr h0 h1 hl h2
    show ∃ z, F32b2 y r N (F32l2 y r N m) told v = some z ∧ F33b2 y r N (F33l2 y r N m) lo hi v = some z
    unfold F32b2 F33b2
    by_cases h : v < 2001
    · obtain ⟨t, e, e'⟩ := F7879 N (r := r) hy (b := v) (by omega) hN
      rw [if_pos h, if_pos (show v ≤ 2000 by omega), e, bindO_some, e', bindO_some]
      cases t with
      | true =>
        rw [if_pos rfl, if_pos rfl, gdO_pos (by omega)]
        unfold F32j3 F33j4 F33j3
        rw [ckO_pos (by unfold InR; omega)]
        have hm := relT_more hr h0
        by_cases hlo : lo < 0
        · rw [if_pos hlo] at hm
          rw [if_pos hlo, ckO_pos (by unfold InR; omega)]
          exact ih _ _ _ _ hm (by omega) (by omega) (by rw [List.length_append]; simp; omega) (by omega)
        · rw [if_neg hlo] at hm
          rw [if_neg hlo, ckO_pos (by unfold InR; omega)]
          exact ih _ _ _ _ hm (by omega) (by omega) (by rw [List.length_append]; simp; omega) (by omega)
      | false =>
        rw [if_neg (by decide), if_neg (by decide)]
        unfold F32j3 F33j3
        rw [ckO_pos (by unfold InR; omega), ckO_pos (by unfold InR; omega)]
        exact ih _ _ _ _ hr (by omega) (by omega) (by omega) (by omega)
    · rw [if_neg h, if_neg (show ¬ v ≤ 2000 by omega)]
      exact ends hr (by omega)
theorem F3233 (N : Nat) (y : Yl) (r : Rg) (hN : 2100 ≤ N) : ∃ z, F32 N y r = some z ∧ F33 N y r = some z := by
  unfold F32 F33
  rw [F69_eq, bindO_some, F73_eq, bindO_some, F20_eq, bindO_some, F75_eq]
  by_cases hy : vY y
  · simp only [if_pos hy, if_true, bindO_some, decide_eq_true_eq]
    by_cases h : isR r 20000
    · simp only [if_pos h, if_true]
      exact loops N hy (by omega) N [] (-1) 0 0 (.inl ⟨rfl, rfl, rfl⟩) (by omega) (by omega) (by simp) (by omega)
    · simp only [if_neg h]
      exact ⟨_, rfl, rfl⟩
  · simp only [if_neg hy]
    exact ⟨_, rfl, rfl⟩
theorem sane5 (n : Nat) : F25 (n + 2100) = some true := by kernel_rfl
end Go.K
