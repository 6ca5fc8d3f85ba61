/- Walls: that of the search is accepted, and no wall is accepted for a gain that a sharing exceeds. No condition. -/
import Derived.Test.YtkmnjiejlgoglaaPY6
namespace Go.K
open Go.RowKit
set_option linter.unusedVariables false
set_option linter.unusedSimpArgs false
theorem mt_gn {w h : Int} {t : Gn} (hw : 0 ≤ w) (hh : 1 ≤ h) : mt (gnOf w h) t ↔ t.num * h < w * t.den := by
  obtain ⟨h1, h2, h3⟩ := gnOf_ok hw hh
  generalize gnOf w h = g at *
  have e1 : t.num * g.den * h = t.num * h * g.den := by ac_rfl
  have e2 : g.num * t.den * h = w * t.den * g.den := by
    have : g.num * t.den * h = g.num * h * t.den := by ac_rfl
    rw [this, h3]; ac_rfl
  have a1 : t.num * g.den * h < g.num * t.den * h ↔ t.num * g.den < g.num * t.den := Int.mul_lt_mul_right (by omega)
  have a2 : t.num * h * g.den < w * t.den * g.den ↔ t.num * h < w * t.den := Int.mul_lt_mul_right (by omega)
  unfold mt
  rw [← a1, e1, e2, a2]
theorem sum_sub : ∀ {a b : List Int}, a.Sublist b → (∀ v ∈ b, 0 ≤ v) → a.sum ≤ b.sum
  | _, _, .slnil, _ => Int.le_refl _
  | _, _, .cons x h, hb => by
    have := sum_sub h (fun v hv => hb v (by simp [hv]))
    have := hb x (by simp)
    simp; omega
  | _, _, .cons_cons x h, hb => by
    have := sum_sub h (fun v hv => hb v (by simp [hv]))
    simp; omega
theorem worth_mono {cs : List Ce} (hv : ∀ c ∈ cs, vCe c) {a b a' b' : Int} (ha : 0 ≤ a') (h1 : a' ≤ a) (h2 : b ≤ b') : worthOf cs a b ≤ worthOf cs a' b' := by
  unfold worthOf
  refine sum_sub (List.Sublist.map _ ?_) (fun v hv' => ?_)
  · by_cases hab : a ≤ b + 1
    · have e : (cs.drop a.toNat).take ((b + 1).toNat - a.toNat) = (((cs.drop a'.toNat).take ((b' + 1).toNat - a'.toNat)).drop (a.toNat - a'.toNat)).take ((b + 1).toNat - a.toNat) := by
        rw [List.drop_take, List.drop_drop, List.take_take, Nat.min_eq_left (by omega), show a'.toNat + (a.toNat - a'.toNat) = a.toNat by omega]
      rw [e]
      exact (List.take_sublist _ _).trans (List.drop_sublist _ _)
    · rw [show (b + 1).toNat - a.toNat = 0 by omega]; simp
  · obtain ⟨c, hc, rfl⟩ := List.mem_map.1 hv'
    have := hv c (List.mem_of_mem_drop (List.mem_of_mem_take hc))
    unfold vCe at this; omega
theorem worth_empty (cs : List Ce) {a b : Int} (h : b + 1 ≤ a) : worthOf cs a b = 0 := by
  unfold worthOf; rw [show (b + 1).toNat - a.toNat = 0 by omega]; simp
theorem mt_gnC {cs : List Ce} (hv : ∀ c ∈ cs, vCe c) (hn : cs.length ≤ 24) {c : Cl} (hc : vCl c) (a b : Int) (t : Gn) : mt (gnC cs c a b) t ↔ t.num * c.hd < worthOf cs a b * t.den := by
  unfold vCl at hc
  exact mt_gn (worthOf_bd hv hn a b).1 hc.2.2.1
theorem fstTo_min {p : Int → Prop} [DecidablePred p] : ∀ {n : Nat} {a x : Int}, fstTo p n a = some x → ∀ y, a ≤ y → y < x → ¬ p y
  | 0, a, x, h, _, _, _ => by cases h
  | n + 1, a, x, h, y, h1, h2 => by
    unfold fstTo at h
    split at h
    · injection h with h; omega
    · rename_i hp
      by_cases e : y = a
      · rw [e]; exact hp
      · exact fstTo_min h y (by omega) h2
theorem fstTo_none {p : Int → Prop} [DecidablePred p] : ∀ {n : Nat} {a : Int}, fstTo p n a = none → ∀ y, a ≤ y → y < a + n → ¬ p y
  | 0, a, h, y, _, _ => by omega
  | n + 1, a, h, y, h1, h2 => by
    unfold fstTo at h
    split at h
    · cases h
    · rename_i hp
      by_cases e : y = a
      · rw [e]; exact hp
      · exact fstTo_none h y (by omega) (by omega)
/-- One step of a wall. -/
def stepW (cs : List Ce) (t : Gn) (c : Cl) (s n : Int) : Prop := hi2 c.fr s < n ∧ ¬ mt (gnC cs c (hi2 c.fr s) (n - 2)) t
instance (cs : List Ce) (t : Gn) (c : Cl) (s n : Int) : Decidable (stepW cs t c s n) := by unfold stepW; infer_instance
def shW (cs : List Ce) (t : Gn) : List Cl → Int → List Int → Prop
  | c :: _, s, [n] => stepW cs t c s n ∧ c.to < n - 1
  | c :: r, s, n :: m :: l => stepW cs t c s n ∧ shW cs t r n (m :: l)
  | _, _, _ => False
theorem shW_one (cs : List Ce) (t : Gn) (c : Cl) (r : List Cl) (s n : Int) : shW cs t (c :: r) s [n] ↔ stepW cs t c s n ∧ c.to < n - 1 := by cases r <;> exact ⟨fun h => h, fun h => h⟩
theorem shW_two (cs : List Ce) (t : Gn) (c : Cl) (r : List Cl) (s n m : Int) (l : List Int) : shW cs t (c :: r) s (n :: m :: l) ↔ stepW cs t c s n ∧ shW cs t r n (m :: l) := ⟨fun h => h, fun h => h⟩
theorem srch_wall (cs : List Ce) (hv : ∀ c ∈ cs, vCe c) (hn : cs.length ≤ 24) (t : Gn) (ht : 0 ≤ t.num) : ∀ (l : List Cl) (s : Int), (∀ c ∈ l, vCl c) → 0 ≤ s ∧ s ≤ 24 → (srch cs t l s).2.2 = false →
    shW cs t l s (srch cs t l s).2.1 ∧ (∀ n ∈ (srch cs t l s).2.1, 0 ≤ n ∧ n ≤ 25) ∧ (srch cs t l s).2.1.length ≤ l.length ∧ 1 ≤ (srch cs t l s).2.1.length
  | [], s, _, _, h => by cases h
  | c :: r, s, hc, hs, h => by
    have hcc := hc c (by simp)
    have hcv := hcc
    unfold vCl at hcv
    have hf : 0 ≤ hi2 c.fr s ∧ hi2 c.fr s ≤ 24 := by unfold hi2; split <;> omega
    have hzero : ∀ b, b + 1 ≤ hi2 c.fr s → ¬ mt (gnC cs c (hi2 c.fr s) b) t := fun b hb => by
      rw [mt_gnC hv hn hcc, worth_empty cs hb]
      have := Int.mul_nonneg ht (show 0 ≤ c.hd by omega)
      omega
    unfold srch at h ⊢
    cases hq : fstTo (fun x => mt (gnC cs c (hi2 c.fr s) x) t) (c.to + 1 - hi2 c.fr s).toNat (hi2 c.fr s) with
    | none =>
      have hno := fstTo_none hq
      have hg : hi2 (c.to + 1) (hi2 c.fr s) ≤ 24 ∧ c.to + 1 ≤ hi2 (c.to + 1) (hi2 c.fr s) ∧ hi2 c.fr s ≤ hi2 (c.to + 1) (hi2 c.fr s) ∧ (hi2 (c.to + 1) (hi2 c.fr s) = c.to + 1 ∨ hi2 (c.to + 1) (hi2 c.fr s) = hi2 c.fr s) := by
        generalize hi2 c.fr s = f at *
        unfold hi2; split <;> omega
      refine ⟨(shW_one cs t c r s _).2 ⟨⟨by omega, ?_⟩, by omega⟩, fun n hn' => by simp at hn'; omega, by simp, by simp⟩
      rw [show hi2 (c.to + 1) (hi2 c.fr s) + 1 - 2 = hi2 (c.to + 1) (hi2 c.fr s) - 1 by omega]
      by_cases hlt : hi2 c.fr s ≤ c.to
      · have : hi2 (c.to + 1) (hi2 c.fr s) - 1 = c.to := by omega
        rw [this]; exact hno c.to hlt (by omega)
      · exact hzero _ (by omega)
    | some x =>
      rw [hq] at h
      have hx := fstTo_some hq
      have hmin := fstTo_min hq
      obtain ⟨i1, i2, i3, i4⟩ := srch_wall cs hv hn t ht r (x + 1) (fun c hc' => hc c (by simp [hc'])) (by omega) h
      have hst : stepW cs t c s (x + 1) := by
        refine ⟨by omega, ?_⟩
        rw [show x + 1 - 2 = x - 1 by omega]
        by_cases hlt : hi2 c.fr s ≤ x - 1
        · exact hmin _ hlt (by omega)
        · exact hzero _ (by omega)
      refine ⟨?_, fun n hn' => ?_, by simpa using i3, by simp⟩
      · show shW cs t (c :: r) s ((x + 1) :: (srch cs t r (x + 1)).2.1)
        cases hl : (srch cs t r (x + 1)).2.1 with
        | nil => rw [hl] at i4; simp at i4
        | cons m l => rw [hl] at i1; exact (shW_two cs t c r s _ m l).2 ⟨hst, i1⟩
      · rcases List.mem_cons.1 hn' with rfl | hn'
        · omega
        · exact i2 n hn'
/-- No sharing exceeds a gain for which there is a wall. -/
theorem wall_not (cs : List Ce) (hv : ∀ c ∈ cs, vCe c) (hn : cs.length ≤ 24) (t : Gn) (ht : 0 ≤ t.den) : ∀ (l : List Cl) (s s0 : Int) (ns : List Int) (ds : List Dr), (∀ c ∈ l, vCl c) → shW cs t l s ns → shL l ds s0 → s ≤ s0 → ¬ ∀ g ∈ gainsL cs l ds, mt g t
  | [], s, s0, ns, ds, _, h, _, _ => absurd h (by cases ns <;> exact fun h => h)
  | c :: r, s, s0, [], ds, _, h, _, _ => absurd h (by cases r <;> exact fun h => h)
  | c :: r, s, s0, n :: ns, [], _, _, h, _ => absurd h (fun h => h)
  | c :: r, s, s0, n :: ns, d :: ds, hc, hw, hs, hle => fun hg => by
    have hcc := hc c (by simp)
    have hcv := hcc
    unfold vCl at hcv
    rw [shL_cons] at hs
    obtain ⟨k1, k2, k3, k4⟩ := hs
    have hst : stepW cs t c s n := by
      cases ns with
      | nil => exact ((shW_one cs t c r s n).1 hw).1
      | cons m l => exact ((shW_two cs t c r s n m l).1 hw).1
    have hf : hi2 c.fr s ≤ d.fr ∧ 0 ≤ hi2 c.fr s := by
      have : hi2 c.fr s ≤ hi2 c.fr s0 := by unfold hi2; repeat' split
                                            all_goals omega
      refine ⟨by omega, ?_⟩
      unfold hi2; split <;> omega
    have g1 : mt (gnC cs c d.fr d.to) t := hg _ (by simp [gainsL])
    have hto : n - 1 ≤ d.to := by
      rcases Int.lt_or_le d.to (n - 1) with h1 | h1
      · exfalso
        apply hst.2
        rw [mt_gnC hv hn hcc] at g1 ⊢
        have := Int.mul_le_mul_of_nonneg_right (worth_mono hv hf.2 hf.1 (show d.to ≤ n - 2 by omega)) ht
        omega
      · exact h1
    cases ns with
    | nil =>
      have := ((shW_one cs t c r s n).1 hw).2
      omega
    | cons m l =>
      exact wall_not cs hv hn t ht r n (d.to + 1) (m :: l) ds (fun c hc' => hc c (by simp [hc'])) ((shW_two cs t c r s n m l).1 hw).2 k4 (by omega) (fun g hg' => hg g (by simp only [gainsL, List.zipWith_cons_cons, List.mem_cons]; exact .inr hg'))
/-! CheckWall -/
theorem F90l2_eq (l : List Cl) (fst : Int) (ns : List Int) (hn : ns.length ≤ 1000) : ∀ (m i : Nat), i ≤ ns.length → ns.length < m + i → F90l2 l fst ns m (i : Int) = if ∀ n ∈ ns.drop i, 0 ≤ n ∧ n ≤ 25 then F90j1 l fst ns else some false := by
  intro m; induction m with
  | zero => intro i h0 h; omega
  | succ m ih =>
    intro i h0 h
    show F90b2 l fst ns (F90l2 l fst ns m) (i : Int) = _
    unfold F90b2
    rcases drop_cases ns i with ⟨h1, h2⟩ | ⟨c, h1, h2, h3⟩
    · rw [if_neg (by omega), h2]; simp
    · rw [if_pos (by omega), gdO_pos (by omega), Int.toNat_natCast, h2, bindO_some, F59_eq, bindO_some, h3, ckO_pos (by unfold InR; omega), succ_cast, ih (i + 1) (by omega) (by omega)]
      by_cases hv : 0 ≤ c ∧ c ≤ 25 <;> simp [hv]
/-- A wall's numbers are in order. -/
def isW (l : List Cl) (fst : Int) (ns : List Int) : Prop := (0 ≤ fst ∧ fst ≤ (l.length : Int) - 1) ∧ (2 ≤ (ns.length : Int) ∧ (ns.length : Int) ≤ (l.length : Int) - fst + 1) ∧ (∀ n ∈ ns, 0 ≤ n ∧ n ≤ 25) ∧ ∃ c, l[fst.toNat]? = some c ∧ ns[0]? = some c.fr
theorem F90_eq (N : Nat) (chs : List Ch) (cs : List Ce) (M : Int → Option Int) (l : List Cl) (fst : Int) (ns : List Int) (hl : l.length ≤ 12) (hN : 101 ≤ N) : ∃ b, F90 N chs cs M l fst ns = some b ∧ (b = true ↔ isW l fst ns) := by
  unfold F90
  rw [ckO_pos (by unfold InR; omega), F59_eq, bindO_some]
  by_cases h1 : 0 ≤ fst ∧ fst ≤ (l.length : Int) - 1
  · rw [if_pos (by simpa using h1), ckO_pos (by unfold InR; omega), ckO_pos (by unfold InR; omega), F59_eq, bindO_some]
    by_cases h2 : 2 ≤ (ns.length : Int) ∧ (ns.length : Int) ≤ (l.length : Int) - fst + 1
    · rw [if_pos (by simpa using h2)]
      have := F90l2_eq l fst ns (by omega) N 0 (by omega) (by omega)
      simp only [List.drop_zero, Int.natCast_zero] at this
      rw [this]
      by_cases h3 : ∀ n ∈ ns, 0 ≤ n ∧ n ≤ 25
      · rw [if_pos h3]
        unfold F90j1
        have e1 : ns[0]? = some (ns[0]'(by omega)) := List.getElem?_eq_getElem _
        have e2 : l[fst.toNat]? = some (l[fst.toNat]'(by omega)) := List.getElem?_eq_getElem _
        rw [e1, bindO_some, gdO_pos h1.1, e2, bindO_some]
        by_cases h4 : ns[0]'(by omega) = (l[fst.toNat]'(by omega)).fr
        · rw [if_pos h4]; exact ⟨true, rfl, ⟨fun _ => ⟨h1, h2, h3, _, e2, by rw [e1, h4]⟩, fun _ => rfl⟩⟩
        · rw [if_neg h4]
          refine ⟨false, rfl, ⟨fun h => absurd h (by decide), fun ⟨_, _, _, c, k1, k2⟩ => ?_⟩⟩
          rw [e2] at k1; rw [e1] at k2
          injection k1 with k1; injection k2 with k2
          subst k1; exact absurd k2 h4
      · rw [if_neg h3]; exact ⟨false, rfl, ⟨fun h => absurd h (by decide), fun h => absurd h.2.2.1 h3⟩⟩
    · rw [if_neg (by simpa using h2)]; exact ⟨false, rfl, ⟨fun h => absurd h (by decide), fun h => absurd h.2.1 h2⟩⟩
  · rw [if_neg (by simpa using h1)]; exact ⟨false, rfl, ⟨fun h => absurd h (by decide), fun h => absurd h.1 h1⟩⟩
theorem F79_gn {a t : Gn} (ha : smG a) (ht : vGn t) : F79 a t = some (if mt t a then -1 else if mt a t then 1 else 0) := by
  unfold smG at ha; unfold vGn at ht
  exact F79_eq (by omega) (by omega) (by omega) (by omega)
theorem F91l2_eq (chs : List Ch) (cs : List Ce) (M : Int → Option Int) (l : List Cl) (f : Nat) (ns : List Int) (t : Gn) (N : Nat) (hv : ∀ c ∈ cs, vCe c) (hn : cs.length ≤ 24) (hc : ∀ c ∈ l, vCl c) (hl : l.length ≤ 12) (ht : vGn t) (hf : f < l.length) (h2 : 2 ≤ ns.length) (h3 : ns.length ≤ l.length - f + 1) (hb : ∀ n ∈ ns, 0 ≤ n ∧ n ≤ 25) (hN : 101 ≤ N) :
    ∀ (m i : Nat) (s : Int), i + 1 < ns.length → ns[i]? = some s → ns.length < m + i → ∃ b, F91l2 chs cs M l (f : Int) ns t N m (i : Int) = some b ∧ (b = true ↔ shW cs t (l.drop (f + i)) s (ns.drop (i + 1))) := by
  intro m; induction m with
  | zero => intro i s h0 h1 h; omega
  | succ m ih =>
    intro i s h0 hs h
    show ∃ b, F91b2 chs cs M l (f : Int) ns t N (F91l2 chs cs M l (f : Int) ns t N m) (i : Int) = some b ∧ _
    unfold F91b2
    have hx : l[f + i]? = some (l[f + i]'(by omega)) := List.getElem?_eq_getElem _
    have hnx : ns[i + 1]? = some (ns[i + 1]'(by omega)) := List.getElem?_eq_getElem _
    have hseg : ((l.drop ((f : Int)).toNat).take (((f : Int) + ((ns.length : Int) - 1)).toNat - ((f : Int)).toNat))[i]? = some (l[f + i]'(by omega)) := by
      rw [List.getElem?_take, if_pos (by omega), List.getElem?_drop, Int.toNat_natCast, hx]
    have hlen : ((l.drop ((f : Int)).toNat).take (((f : Int) + ((ns.length : Int) - 1)).toNat - ((f : Int)).toNat)).length = ns.length - 1 := by
      rw [List.length_take, List.length_drop]; omega
    have e3 : l.drop (f + i) = (l[f + i]'(by omega)) :: l.drop (f + i + 1) := List.drop_eq_getElem_cons _
    have e4 : ns.drop (i + 1) = (ns[i + 1]'(by omega)) :: ns.drop (i + 1 + 1) := List.drop_eq_getElem_cons _
    have hcc := hc _ (List.mem_of_getElem? hx)
    have hnb := hb _ (List.mem_of_getElem? hnx)
    have hsb := hb _ (List.mem_of_getElem? hs)
    rw [hlen, if_pos (by omega), gdO_pos (by omega), Int.toNat_natCast i, hseg, bindO_some, hs, bindO_some, ckO_pos (by unfold InR; omega), gdO_pos (by omega), show ((i : Int) + 1).toNat = i + 1 by omega, hnx, bindO_some, e3, e4]
    have hlast : i + 1 + 1 = ns.length → (F91l2 chs cs M l (f : Int) ns t N m ((i + 1 : Nat) : Int) = some (decide ((l[f + i]'(by omega)).to < (ns[i + 1]'(by omega)) - 1))) := fun e => by
      obtain ⟨k, rfl⟩ : ∃ k, m = k + 1 := ⟨m - 1, by omega⟩
      show F91b2 chs cs M l (f : Int) ns t N (F91l2 chs cs M l (f : Int) ns t N k) ((i + 1 : Nat) : Int) = _
      unfold F91b2
      rw [hlen, if_neg (by omega)]
      unfold F91j1
      rw [gdO_pos (by omega), show ((ns.length : Int) - 1).toNat = i + 1 by omega, hnx, bindO_some, ckO_pos (by unfold InR; omega), ckO_pos (by unfold InR; omega), ckO_pos (by unfold InR; omega), gdO_pos (by omega), show ((f : Int) + ((ns.length : Int) - 1) - 1).toNat = f + i by omega, hx, bindO_some]
      split <;> simp_all
    generalize hcd : (l[f + i]'(by omega)) = c at *
    generalize hnd : (ns[i + 1]'(by omega)) = n at *
    have hcv := hcc
    unfold vCl at hcv
    have hhi : 0 ≤ hi2 c.fr s := by unfold hi2; split <;> omega
    have hiff : shW cs t (c :: l.drop (f + i + 1)) s (n :: ns.drop (i + 1 + 1)) → stepW cs t c s n := fun h => by
      cases hd : ns.drop (i + 1 + 1) with
      | nil => rw [hd] at h; exact ((shW_one cs t c _ s n).1 h).1
      | cons m' l' => rw [hd] at h; exact ((shW_two cs t c _ s n m' l').1 h).1
    show ∃ b, (if n ≤ hi2 c.fr s then some false else ckO (n - 2) (bindO (F94 N chs cs M c ⟨hi2 c.fr s, n - 2⟩) _)) = some b ∧ _
    by_cases k1 : n ≤ hi2 c.fr s
    · rw [if_pos k1]; exact ⟨false, rfl, ⟨fun h => absurd h (by decide), fun h => absurd (hiff h).1 (by omega)⟩⟩
    · rw [if_neg k1, ckO_pos (by unfold InR; omega), F94_eq N chs cs M c ⟨hi2 c.fr s, n - 2⟩ hhi hn hv hcc hN, bindO_some, F79_gn (gnC_ok hv hn hcc _ _).1 ht, bindO_some]
      by_cases k2 : mt (gnC cs c (hi2 c.fr s) (n - 2)) t
      · rw [if_pos (cmp_pos.2 k2)]; exact ⟨false, rfl, ⟨fun h => absurd h (by decide), fun h => absurd k2 (hiff h).2⟩⟩
      · rw [if_neg (fun h => k2 (cmp_pos.1 h)), succ_cast]
        have hst : stepW cs t c s n := ⟨by omega, k2⟩
        by_cases e : i + 1 + 1 = ns.length
        · rw [hlast e]
          refine ⟨_, rfl, ?_⟩
          rw [List.drop_eq_nil_of_le (by omega : ns.length ≤ i + 1 + 1), shW_one]
          simp [hst]
        · obtain ⟨b, g1, g2⟩ := ih (i + 1) n (by omega) hnx (by omega)
          refine ⟨b, g1, ?_⟩
          rw [g2, show f + (i + 1) = f + i + 1 by omega]
          have hnx2 : ns[i + 1 + 1]? = some (ns[i + 1 + 1]'(by omega)) := List.getElem?_eq_getElem _
          have e5 : ns.drop (i + 1 + 1) = (ns[i + 1 + 1]'(by omega)) :: ns.drop (i + 1 + 1 + 1) := List.drop_eq_getElem_cons _
          rw [e5, shW_two]
          exact ⟨fun h => ⟨hst, h⟩, fun h => h.2⟩
/-- A wall that is accepted. -/
def wallOK (cs : List Ce) (l : List Cl) (fst : Int) (ns : List Int) (t : Gn) : Prop := vGn t ∧ isW l fst ns ∧ ∃ c, l[fst.toNat]? = some c ∧ shW cs t (l.drop fst.toNat) c.fr (ns.drop 1)
theorem F47_eq (N : Nat) (chs : List Ch) (cs : List Ce) (l : List Cl) (fst : Int) (ns : List Int) (t : Gn) (hg : okG chs cs) (hc : okC cs l) (hN : 101 ≤ N) : ∃ e, F47 N chs cs l fst ns t = some e ∧ (e = 0 ↔ wallOK cs l fst ns t) := by
  unfold F47
  rw [F64_eq N chs cs l (by omega), if_pos hg, if_pos hc, bindS3_3, F78_eq, bindO_some]
  by_cases h1 : vGn t
  · rw [if_pos (by simpa using h1)]
    obtain ⟨b, e1, e2⟩ := F90_eq N chs cs (extM noM 0 chs) l fst ns hc.1.2 hN
    rw [e1, bindO_some]
    cases b with
    | false => rw [if_neg (by decide)]; exact ⟨49, rfl, ⟨fun h => by omega, fun h => absurd (e2.2 h.2.1) (by decide)⟩⟩
    | true =>
      have hw := e2.1 rfl
      obtain ⟨w1, w2, w3, c, w4, w5⟩ := hw
      rw [if_pos rfl]
      unfold F91
      have hl := hc.1
      rw [ckO_pos (by unfold InR; omega), ckO_pos (by unfold InR; omega), gdO_pos (by omega), gdO_pos (by omega), gdO_pos (by omega)]
      obtain ⟨f, rfl⟩ := Int.eq_ofNat_of_zero_le w1.1
      obtain ⟨b, g1, g2⟩ := F91l2_eq chs cs (extM noM 0 chs) l f ns t N (okG_ces hg) hg.2.1.2 (fun c h => (okL_all l _ _ hc.2 c h).1) hl.2 h1 (by omega) (by omega) (by omega) w3 hN N 0 c.fr (by omega) w5 (by omega)
      simp only [Int.natCast_zero, Nat.add_zero, Nat.zero_add] at g1 g2
      rw [g1, bindO_some]
      rw [Int.toNat_natCast] at w4
      cases b with
      | false =>
        rw [if_neg (by decide)]
        refine ⟨49, rfl, ⟨fun h => by omega, fun ⟨_, _, c', k1, k2⟩ => ?_⟩⟩
        rw [Int.toNat_natCast] at k1 k2
        rw [w4] at k1; injection k1 with k1; subst k1
        exact absurd (g2.2 k2) (by decide)
      | true =>
        rw [if_pos rfl]
        refine ⟨0, rfl, ⟨fun _ => ⟨h1, ⟨w1, w2, w3, c, by rw [Int.toNat_natCast]; exact w4, w5⟩, c, by rw [Int.toNat_natCast]; exact w4, by rw [Int.toNat_natCast]; exact g2.1 rfl⟩, fun _ => rfl⟩⟩
  · rw [if_neg (by simpa using h1)]; exact ⟨1, rfl, ⟨fun h => by omega, fun h => absurd h.1 h1⟩⟩
theorem shL_drop : ∀ (k : Nat) {l : List Cl} {ds : List Dr} {s : Int}, shL l ds s → k ≤ l.length → ∃ s', shL (l.drop k) (ds.drop k) s'
  | 0, l, ds, s, h, _ => ⟨s, h⟩
  | k + 1, [], _, _, _, h => by simp at h
  | k + 1, c :: l, [], s, h, _ => absurd h (fun h => h)
  | k + 1, c :: l, d :: ds, s, h, hk => by
    obtain ⟨s', hs⟩ := shL_drop k h.2.2.2 (by simpa using hk)
    exact ⟨s', by simpa using hs⟩
theorem gains_drop (cs : List Ce) (k : Nat) (l : List Cl) (ds : List Dr) : gainsL cs (l.drop k) (ds.drop k) = (gainsL cs l ds).drop k := by
  unfold gainsL; rw [List.drop_zipWith]
/-- No sharing gives each family more than a gain for which a wall is accepted. -/
theorem wall_best {cs : List Ce} (hv : ∀ c ∈ cs, vCe c) (hn : cs.length ≤ 24) {l : List Cl} (hc : ∀ c ∈ l, vCl c) {fst : Int} {ns : List Int} {t : Gn} (hw : wallOK cs l fst ns t) {ds : List Dr} {s : Int} (hs : shL l ds s) : ¬ ∀ g ∈ gainsL cs l ds, mt g t := fun hg => by
  obtain ⟨w1, w2, c, w3, w4⟩ := hw
  unfold vGn at w1
  have hk : fst.toNat < l.length := lt_of_get w3
  obtain ⟨s', h1⟩ := shL_drop fst.toNat hs (by omega)
  have hd : l.drop fst.toNat = c :: l.drop (fst.toNat + 1) := by
    rw [List.drop_eq_getElem_cons hk]
    rw [List.getElem?_eq_getElem hk] at w3; injection w3 with w3; rw [w3]
  have h2 : shL (l.drop fst.toNat) (ds.drop fst.toNat) (hi2 c.fr s') := by
    rw [hd] at h1 ⊢
    cases he : ds.drop fst.toNat with
    | nil => rw [he] at h1; exact absurd h1 (fun h => h)
    | cons d r =>
      rw [he, shL_cons] at h1
      rw [shL_cons]
      refine ⟨?_, h1.2⟩
      have : hi2 c.fr (hi2 c.fr s') = hi2 c.fr s' := by
        unfold hi2; repeat' split
        all_goals omega
      rw [this]; exact h1.1
  refine wall_not cs hv hn t (by omega) (l.drop fst.toNat) c.fr (hi2 c.fr s') (ns.drop 1) (ds.drop fst.toNat) (fun c hc' => hc c (List.mem_of_mem_drop hc')) w4 h2 (by unfold hi2; split <;> omega) (fun g hg' => hg g ?_)
  rw [gains_drop] at hg'
  exact List.mem_of_mem_drop hg'
/-- The search's wall is accepted. -/
theorem best_wall {cs : List Ce} (hv : ∀ c ∈ cs, vCe c) (hn : cs.length ≤ 24) {c : Cl} {r : List Cl} (hc : ∀ x ∈ c :: r, vCl x) (hl : (c :: r).length ≤ 12) {ds : List Dr} {t : Gn} (h : Best cs c r ds t) (h0 : 0 ≤ t.num) : wallOK cs (c :: r) 0 (c.fr :: (srch cs t (c :: r) c.fr).2.1) t := by
  have hcv := hc c (by simp)
  unfold vCl at hcv
  obtain ⟨w1, w2, w3, w4⟩ := srch_wall cs hv hn t h0 (c :: r) c.fr hc (by omega) h.wall
  have hsm := h.sm
  unfold smG at hsm
  refine ⟨by unfold vGn; omega, ⟨⟨by omega, by simp only [List.length_cons]; omega⟩, ⟨by simp only [List.length_cons]; omega, by simp only [List.length_cons] at w3 ⊢; omega⟩, fun n hn' => ?_, c, rfl, rfl⟩, c, rfl, by simpa using w1⟩
  rcases List.mem_cons.1 hn' with rfl | hn'
  · omega
  · exact w2 n hn'
end Go.K
