/- Walls: that of the search is accepted, and no wall is accepted for a gain that a sharing exceeds. No condition. -/
import Derived.Test.YtkmnjiejlgoglaaPY6
namespace Go.K
open Go.RowKit
set_option linter.unusedVariables false
set_option linter.unusedSimpArgs false
theorem mt_gn {w h : Int} {t : Gn} (hw : 0 ≤ w) (hh : 1 ≤ h) : mt (gnOf w h) t ↔ t.num * h < w * t.den := by
  obtain ⟨h1, h2, h3⟩ := gnOf_ok hw hh
  generalize gnOf w h = g at *
  have e1 : t.num * g.den * h = t.num * h * g.den := by ac_rfl
  have e2 : g.num * t.den * h = w * t.den * g.den := by
    have : g.num * t.den * h = g.num * h * t.den := by ac_rfl
    rw [this, h3]; ac_rfl
  have a1 : t.num * g.den * h < g.num * t.den * h ↔ t.num * g.den < g.num * t.den := Int.mul_lt_mul_right (by omega)
  have a2 : t.num * h * g.den < w * t.den * g.den ↔ t.num * h < w * t.den := Int.mul_lt_mul_right (by omega)
  unfold mt
  rw [← a1, e1, e2, a2]
theorem sum_sub : ∀ {a b : List Int}, a.Sublist b → (∀ v ∈ b, 0 ≤ v) → a.sum ≤ b.sum
  | _, _, .slnil, _ => Int.le_refl _
  | _, _, .cons x h, hb => by
    have := sum_sub h (fun v hv => hb v (by simp [hv]))
    have := hb x (by simp)
    simp; omega
  | _, _, .cons_cons x h, hb => by
    have := sum_sub h (fun v hv => hb v (by simp [hv]))
    simp; omega
theorem worth_mono {cs : List Ce} (hv : ∀ c ∈ cs, vCe c) {a b a' b' : Int} (ha : 0 ≤ a') (h1 : a' ≤ a) (h2 : b ≤ b') : worthOf cs a b ≤ worthOf cs a' b' := by
  unfold worthOf
  refine sum_sub (List.Sublist.map _ ?_) (fun v hv' => ?_)
  · by_cases hab : a ≤ b + 1
    · have e : (cs.drop a.toNat).take ((b + 1).toNat - a.toNat) = (((cs.drop a'.toNat).take ((b' + 1).toNat - a'.toNat)).drop (a.toNat - a'.toNat)).take ((b + 1).toNat - a.toNat) := by
        rw [List.drop_take, List.drop_drop, List.take_take, Nat.min_eq_left (by omega), show a'.toNat + (a.toNat - a'.toNat) = a.toNat by omega]
      rw [e]
      exact (List.take_sublist _ _).trans (List.drop_sublist _ _)
    · rw [show (b + 1).toNat - a.toNat = 0 by omega]; simp
  · obtain ⟨c, hc, rfl⟩ := List.mem_map.1 hv'
    have := hv c (List.mem_of_mem_drop (List.mem_of_mem_take hc))
    unfold vCe at this; omega
theorem worth_empty (cs : List Ce) {a b : Int} (h : b + 1 ≤ a) : worthOf cs a b = 0 := by
  unfold worthOf; rw [show (b + 1).toNat - a.toNat = 0 by omega]; simp
theorem mt_gnC {cs : List Ce} (hv : ∀ c ∈ cs, vCe c) (hn : cs.length ≤ 24) {c : Cl} (hc : vCl c) (a b : Int) (t : Gn) : mt (gnC cs c a b) t ↔ t.num * c.hd < worthOf cs a b * t.den := by
  unfold vCl at hc
  exact mt_gn (worthOf_bd hv hn a b).1 hc.2.2.1
theorem fstTo_min {p : Int → Prop} [DecidablePred p] : ∀ {n : Nat} {a x : Int}, fstTo p n a = some x → ∀ y, a ≤ y → y < x → ¬ p y
  | 0, a, x, h, _, _, _ => by cases h
  | n + 1, a, x, h, y, h1, h2 => by
    unfold fstTo at h
    split at h
    · injection h with h; omega
    · rename_i hp
      by_cases e : y = a
      · rw [e]; exact hp
      · exact fstTo_min h y (by omega) h2
theorem fstTo_none {p : Int → Prop} [DecidablePred p] : ∀ {n : Nat} {a : Int}, fstTo p n a = none → ∀ y, a ≤ y → y < a + n → ¬ p y
  | 0, a, h, y, _, _ => by omega
  | n + 1, a, h, y, h1, h2 => by
    unfold fstTo at h
    split at h
    · cases h
    · rename_i hp
      by_cases e : y = a
      · rw [e]; exact hp
      · exact fstTo_none h y (by omega) (by omega)
/-- One step of a wall. -/
def stepW (cs : List Ce) (t : Gn) (c : Cl) (s n : Int) : Prop := hi2 c.fr s < n ∧ ¬ mt (gnC cs c (hi2 c.fr s) (n - 2)) t
instance (cs : List Ce) (t : Gn) (c : Cl) (s n : Int) : Decidable (stepW cs t c s n) := by unfold stepW; infer_instance
def shW (cs : List Ce) (t : Gn) : List Cl → Int → List Int → Prop
  | c :: _, s, [n] => stepW cs t c s n ∧ c.to < n - 1
  | c :: r, s, n :: m :: l => stepW cs t c s n ∧ shW cs t r n (m :: l)
  | _, _, _ => False
theorem shW_one (cs : List Ce) (t : Gn) (c : Cl) (r : List Cl) (s n : Int) : shW cs t (c :: r) s [n] ↔ stepW cs t c s n ∧ c.to < n - 1 := by cases r <;> exact ⟨fun h => h, fun h => h⟩
theorem shW_two (cs : List Ce) (t : Gn) (c : Cl) (r : List Cl) (s n m : Int) (l : List Int) : shW cs t (c :: r) s (n :: m :: l) ↔ stepW cs t c s n ∧ shW cs t r n (m :: l) := ⟨fun h => h, fun h => h⟩
theorem srch_wall (cs : List Ce) (hv : ∀ c ∈ cs, vCe c) (hn : cs.length ≤ 24) (t : Gn) (ht : 0 ≤ t.num) : ∀ (l : List Cl) (s : Int), (∀ c ∈ l, vCl c) → 0 ≤ s ∧ s ≤ 24 → (srch cs t l s).2.2 = false →
    shW cs t l s (srch cs t l s).2.1 ∧ (∀ n ∈ (srch cs t l s).2.1, 0 ≤ n ∧ n ≤ 25) ∧ (srch cs t l s).2.1.length ≤ l.length ∧ 1 ≤ (srch cs t l s).2.1.length
  | [], s, _, _, h => by cases h
  | c :: r, s, hc, hs, h => by
    have hcc := hc c (by simp)
    have hcv := hcc
    unfold vCl at hcv
    have hf : 0 ≤ hi2 c.fr s ∧ hi2 c.fr s ≤ 24 := by unfold hi2; split <;> omega
    have hzero : ∀ b, b + 1 ≤ hi2 c.fr s → ¬ mt (gnC cs c (hi2 c.fr s) b) t := fun b hb => by
      rw [mt_gnC hv hn hcc, worth_empty cs hb]
      have := Int.mul_nonneg ht (show 0 ≤ c.hd by omega)
      omega
    unfold srch at h ⊢
    cases hq : fstTo (fun x => mt (gnC cs c (hi2 c.fr s) x) t) (c.to + 1 - hi2 c.fr s).toNat (hi2 c.fr s) with
    | none =>
      have hno := fstTo_none hq
      have hg : hi2 (c.to + 1) (hi2 c.fr s) ≤ 24 ∧ c.to + 1 ≤ hi2 (c.to + 1) (hi2 c.fr s) ∧ hi2 c.fr s ≤ hi2 (c.to + 1) (hi2 c.fr s) ∧ (hi2 (c.to + 1) (hi2 c.fr s) = c.to + 1 ∨ hi2 (c.to + 1) (hi2 c.fr s) = hi2 c.fr s) := by
        generalize hi2 c.fr s = f at *
        unfold hi2; split <;> omega
      refine ⟨(shW_one cs t c r s _).2 ⟨⟨by omega, ?_⟩, by omega⟩, fun n hn' => by simp at hn'; omega, by simp, by simp⟩
      rw [show hi2 (c.to + 1) (hi2 c.fr s) + 1 - 2 = hi2 (c.to + 1) (hi2 c.fr s) - 1 by omega]
      by_cases hlt : hi2 c.fr s ≤ c.to
      · have : hi2 (c.to + 1) (hi2 c.fr s) - 1 = c.to := by omega
        rw [this]; exact hno c.to hlt (by omega)
      · exact hzero _ (by omega)
    | some x =>
      rw [hq] at h
      have hx := fstTo_some hq
      have hmin := fstTo_min hq
      obtain ⟨i1, i2, i3, i4⟩ := srch_wall cs hv hn t ht r (x + 1) (fun c hc' => hc c (by simp [hc'])) (by omega) h
      have hst : stepW cs t c s (x + 1) := by
        refine ⟨by omega, ?_⟩
        rw [show x + 1 - 2 = x - 1 by omega]
        by_cases hlt : hi2 c.fr s ≤ x - 1
        · exact hmin _ hlt (by omega)
        · exact hzero _ (by omega)
      refine ⟨?_, fun n hn' => ?_, by simpa using i3, by simp⟩
      · show shW cs t (c :: r) s ((x + 1) :: (srch cs t r (x + 1)).2.1)
        cases hl : (srch cs t r (x + 1)).2.1 with
        | nil => rw [hl] at i4; simp at i4
        | cons m l => rw [hl] at i1; exact (shW_two cs t c r s _ m l).2 ⟨hst, i1⟩
      · rcases List.mem_cons.1 hn' with rfl | hn'
        · omega
        · exact i2 n hn'
/-- No sharing exceeds a gain for which there is a wall. -/
theorem wall_not (cs : List Ce) (hv : ∀ c ∈ cs, vCe c) (hn : cs.length ≤ 24) (t : Gn) (ht : 0 ≤ t.den) : ∀ (l : List Cl) (s s0 : Int) (ns : List Int) (ds : List Dr), (∀ c ∈ l, vCl c) → shW cs t l s ns → shL l ds s0 → s ≤ s0 → ¬ ∀ g ∈ gainsL cs l ds, mt g t
  | [], s, s0, ns, ds, _, h, _, _ => absurd h (by cases ns <;> exact fun h => h)
  | c :: r, s, s0, [], ds, _, h, _, _ => absurd h (by cases r <;> exact fun h => h)
  | c :: r, s, s0, n :: ns, [], _, _, h, _ => absurd h (fun h => h)
  | c :: r, s, s0, n :: ns, d :: ds, hc, hw, hs, hle => fun hg => by
    have hcc := hc c (by simp)
    have hcv := hcc
    unfold vCl at hcv
    rw [shL_cons] at hs
    obtain ⟨k1, k2, k3, k4⟩ := hs
    have hst : stepW cs t c s n := by
      cases ns with
      | nil => exact ((shW_one cs t c r s n).1 hw).1
      | cons m l => exact ((shW_two cs t c r s n m l).1 hw).1
    have hf : hi2 c.fr s ≤ d.fr ∧ 0 ≤ hi2 c.fr s := by
      have : hi2 c.fr s ≤ hi2 c.fr s0 := by unfold hi2; repeat' split
                                            all_goals omega
      refine ⟨by omega, ?_⟩
      unfold hi2; split <;> omega
    have g1 : mt (gnC cs c d.fr d.to) t := hg _ (by simp [gainsL])
    have hto : n - 1 ≤ d.to := by
      rcases Int.lt_or_le d.to (n - 1) with h1 | h1
      · exfalso
        apply hst.2
        rw [mt_gnC hv hn hcc] at g1 ⊢
        have := Int.mul_le_mul_of_nonneg_right (worth_mono hv hf.2 hf.1 (show d.to ≤ n - 2 by omega)) ht
        omega
      · exact h1
    cases ns with
    | nil =>
      have := ((shW_one cs t c r s n).1 hw).2
      omega
    | cons m l =>
      exact wall_not cs hv hn t ht r n (d.to + 1) (m :: l) ds (fun c hc' => hc c (by simp [hc'])) ((shW_two cs t c r s n m l).1 hw).2 k4 (by omega) (fun g hg' => hg g (by simp only [gainsL, List.zipWith_cons_cons, List.mem_cons]; exact .inr hg'))
/-- A wall's numbers are in order. -/
def isW (l : List Cl) (fst : Int) (ns : List Int) : Prop := (0 ≤ fst ∧ fst ≤ (l.length : Int) - 1) ∧ (2 ≤ (ns.length : Int) ∧ (ns.length : Int) ≤ (l.length : Int) - fst + 1) ∧ (∀ n ∈ ns, 0 ≤ n ∧ n ≤ 25) ∧ ∃ c, l[fst.toNat]? = some c ∧ ns[0]? = some c.fr
/-- A wall that is accepted. -/
def wallOK (cs : List Ce) (l : List Cl) (fst : Int) (ns : List Int) (t : Gn) : Prop := vGn t ∧ isW l fst ns ∧ ∃ c, l[fst.toNat]? = some c ∧ shW cs t (l.drop fst.toNat) c.fr (ns.drop 1)
theorem shL_drop : ∀ (k : Nat) {l : List Cl} {ds : List Dr} {s : Int}, shL l ds s → k ≤ l.length → ∃ s', shL (l.drop k) (ds.drop k) s'
  | 0, l, ds, s, h, _ => ⟨s, h⟩
  | k + 1, [], _, _, _, h => by simp at h
  | k + 1, c :: l, [], s, h, _ => absurd h (fun h => h)
  | k + 1, c :: l, d :: ds, s, h, hk => by
    obtain ⟨s', hs⟩ := shL_drop k h.2.2.2 (by simpa using hk)
    exact ⟨s', by simpa using hs⟩
theorem gains_drop (cs : List Ce) (k : Nat) (l : List Cl) (ds : List Dr) : gainsL cs (l.drop k) (ds.drop k) = (gainsL cs l ds).drop k := by
  unfold gainsL; rw [List.drop_zipWith]
/-- No sharing gives each family more than a gain for which a wall is accepted. -/
theorem wall_best {cs : List Ce} (hv : ∀ c ∈ cs, vCe c) (hn : cs.length ≤ 24) {l : List Cl} (hc : ∀ c ∈ l, vCl c) {fst : Int} {ns : List Int} {t : Gn} (hw : wallOK cs l fst ns t) {ds : List Dr} {s : Int} (hs : shL l ds s) : ¬ ∀ g ∈ gainsL cs l ds, mt g t := fun hg => by
  obtain ⟨w1, w2, c, w3, w4⟩ := hw
  unfold vGn at w1
  have hk : fst.toNat < l.length := lt_of_get w3
  obtain ⟨s', h1⟩ := shL_drop fst.toNat hs (by omega)
  have hd : l.drop fst.toNat = c :: l.drop (fst.toNat + 1) := by
    rw [List.drop_eq_getElem_cons hk]
    rw [List.getElem?_eq_getElem hk] at w3; injection w3 with w3; rw [w3]
  have h2 : shL (l.drop fst.toNat) (ds.drop fst.toNat) (hi2 c.fr s') := by
    rw [hd] at h1 ⊢
    cases he : ds.drop fst.toNat with
    | nil => rw [he] at h1; exact absurd h1 (fun h => h)
    | cons d r =>
      rw [he, shL_cons] at h1
      rw [shL_cons]
      refine ⟨?_, h1.2⟩
      have : hi2 c.fr (hi2 c.fr s') = hi2 c.fr s' := by
        unfold hi2; repeat' split
        all_goals omega
      rw [this]; exact h1.1
  refine wall_not cs hv hn t (by omega) (l.drop fst.toNat) c.fr (hi2 c.fr s') (ns.drop 1) (ds.drop fst.toNat) (fun c hc' => hc c (List.mem_of_mem_drop hc')) w4 h2 (by unfold hi2; split <;> omega) (fun g hg' => hg g ?_)
  rw [gains_drop] at hg'
  exact List.mem_of_mem_drop hg'
/-- The search's wall is accepted. -/
theorem best_wall {cs : List Ce} (hv : ∀ c ∈ cs, vCe c) (hn : cs.length ≤ 24) {c : Cl} {r : List Cl} (hc : ∀ x ∈ c :: r, vCl x) (hl : (c :: r).length ≤ 12) {ds : List Dr} {t : Gn} (h : Best cs c r ds t) (h0 : 0 ≤ t.num) : wallOK cs (c :: r) 0 (c.fr :: (srch cs t (c :: r) c.fr).2.1) t := by
  have hcv := hc c (by simp)
  unfold vCl at hcv
  obtain ⟨w1, w2, w3, w4⟩ := srch_wall cs hv hn t h0 (c :: r) c.fr hc (by omega) h.wall
  have hsm := h.sm
  unfold smG at hsm
  refine ⟨by unfold vGn; omega, ⟨⟨by omega, by simp only [List.length_cons]; omega⟩, ⟨by simp only [List.length_cons]; omega, by simp only [List.length_cons] at w3 ⊢; omega⟩, fun n hn' => ?_, c, rfl, rfl⟩, c, rfl, by simpa using w1⟩
  rcases List.mem_cons.1 hn' with rfl | hn'
  · omega
  · exact w2 n hn'
end Go.K
