/- The search for a fairest sharing, in closed form: it ends, with a sharing and a wall; a sharing or a crowd. No condition. -/
import Derived.Test.YtkmnjiejlgoglaaPY4
namespace Go.K
open Go.RowKit
set_option linter.unusedVariables false
set_option linter.unusedSimpArgs false
/-! gains in lowest terms -/
theorem F105l1_eq : ∀ (m a b : Nat), b < m → F105l1 m (a : Int) (b : Int) = some ((Nat.gcd a b : Nat) : Int) := by
  intro m; induction m with
  | zero => intro a b h; omega
  | succ m ih =>
    intro a b h
    show F105b1 (F105l1 m) (a : Int) (b : Int) = _
    unfold F105b1
    by_cases hb : b = 0
    · subst hb; simp
    · have hm : a % b < b := Nat.mod_lt _ (by omega)
      rw [if_neg (by omega), gdO_pos (by omega), Int.tmod_eq_emod_of_nonneg (by omega), ← Int.natCast_emod, ih b (a % b) (by omega)]
      rw [Nat.gcd_comm b, ← Nat.gcd_rec, Nat.gcd_comm]
def gnOf (w h : Int) : Gn := ⟨w.tdiv (Nat.gcd w.toNat h.toNat : Nat), h.tdiv (Nat.gcd w.toNat h.toNat : Nat)⟩
theorem gnOf_ok {w h : Int} (hw : 0 ≤ w) (hh : 1 ≤ h) : (0 ≤ (gnOf w h).num ∧ (gnOf w h).num ≤ w) ∧ (1 ≤ (gnOf w h).den ∧ (gnOf w h).den ≤ h) ∧ (gnOf w h).num * h = w * (gnOf w h).den := by
  obtain ⟨a, rfl⟩ := Int.eq_ofNat_of_zero_le hw
  obtain ⟨b, rfl⟩ := Int.eq_ofNat_of_zero_le (show 0 ≤ h by omega)
  have hg : 0 < Nat.gcd a b := Nat.gcd_pos_of_pos_right _ (by omega)
  obtain ⟨p, hp⟩ := Nat.gcd_dvd_left a b
  obtain ⟨q, hq⟩ := Nat.gcd_dvd_right a b
  have e1 : (gnOf a b).num = p := by
    show (a : Int).tdiv ((Nat.gcd (a : Int).toNat (b : Int).toNat : Nat) : Int) = p
    rw [Int.toNat_natCast, Int.toNat_natCast]
    conv => lhs; lhs; rw [hp]
    rw [Int.natCast_mul, Int.mul_tdiv_cancel_left _ (by omega)]
  have e2 : (gnOf a b).den = q := by
    show (b : Int).tdiv ((Nat.gcd (a : Int).toNat (b : Int).toNat : Nat) : Int) = q
    rw [Int.toNat_natCast, Int.toNat_natCast]
    conv => lhs; lhs; rw [hq]
    rw [Int.natCast_mul, Int.mul_tdiv_cancel_left _ (by omega)]
  rw [e1, e2]
  have h1 : p ≤ a := by rw [hp]; exact Nat.le_mul_of_pos_left p hg
  have h2 : q ≤ b := by rw [hq]; exact Nat.le_mul_of_pos_left q hg
  have h3 : 0 < q := by rcases Nat.eq_zero_or_pos q with h0 | h0; rw [h0, Nat.mul_zero] at hq; omega; exact h0
  refine ⟨by omega, by omega, ?_⟩
  have : p * b = a * q := by
    conv => lhs; rw [hq]
    conv => rhs; rw [hp]
    rw [Nat.mul_left_comm, Nat.mul_assoc]
  exact_mod_cast this
theorem F101_eq (N : Nat) (w h : Int) (hw : 0 ≤ w ∧ w ≤ 1000000000) (hh : 1 ≤ h ∧ h ≤ 1000000) (hN : h < N) : F101 N w h = some ((gnOf w h).num, (gnOf w h).den) := by
  obtain ⟨a, rfl⟩ := Int.eq_ofNat_of_zero_le hw.1
  obtain ⟨b, rfl⟩ := Int.eq_ofNat_of_zero_le (show 0 ≤ h by omega)
  have hg : 0 < Nat.gcd a b := Nat.gcd_pos_of_pos_right _ (by omega)
  unfold F101 F105
  rw [F105l1_eq N a b (by omega), bindO_some, gdO_pos (by omega), ckO_pos (by unfold InR; omega), ckO_pos (by unfold InR; omega)]
  rfl
theorem sum_bd {B : Int} : ∀ {l : List Int}, (∀ v ∈ l, 0 ≤ v ∧ v ≤ B) → 0 ≤ l.sum ∧ l.sum ≤ B * l.length
  | [], _ => by simp
  | v :: l, h => by
    have h1 := h v (by simp)
    have h2 := sum_bd (l := l) (fun v hv => h v (by simp [hv]))
    simp only [List.sum_cons, List.length_cons]
    have : B * ((l.length + 1 : Nat) : Int) = B * l.length + B := by rw [Int.natCast_add, Int.mul_add]; simp
    omega
theorem worthOf_bd {cs : List Ce} (hv : ∀ c ∈ cs, vCe c) (hn : cs.length ≤ 24) (a b : Int) : 0 ≤ worthOf cs a b ∧ worthOf cs a b ≤ 240000 := by
  have h := sum_bd (B := 10000) (l := ((cs.drop a.toNat).take ((b + 1).toNat - a.toNat)).map Ce.wo) (fun v hv' => by
    obtain ⟨c, hc, rfl⟩ := List.mem_map.1 hv'
    have := hv c (List.mem_of_mem_drop (List.mem_of_mem_take hc))
    unfold vCe at this; omega)
  have hl : (((cs.drop a.toNat).take ((b + 1).toNat - a.toNat)).map Ce.wo).length ≤ 24 := by simp; omega
  unfold worthOf
  omega
def gnC (cs : List Ce) (c : Cl) (a b : Int) : Gn := gnOf (worthOf cs a b) c.hd
/-- A gain of the game: its numbers are small. -/
def smG (g : Gn) : Prop := (-1 ≤ g.num ∧ g.num ≤ 240000) ∧ 1 ≤ g.den ∧ g.den ≤ 20
theorem gnC_ok {cs : List Ce} (hv : ∀ c ∈ cs, vCe c) (hn : cs.length ≤ 24) {c : Cl} (hc : vCl c) (a b : Int) : smG (gnC cs c a b) ∧ 0 ≤ (gnC cs c a b).num := by
  have h1 := worthOf_bd hv hn a b
  unfold vCl at hc
  have h2 := gnOf_ok h1.1 hc.2.2.1
  unfold smG gnC
  omega
theorem F94_eq (N : Nat) (chs : List Ch) (cs : List Ce) (M : Int → Option Int) (c : Cl) (d : Dr) (ha : 0 ≤ d.fr) (hn : cs.length ≤ 24) (hv : ∀ c ∈ cs, vCe c) (hc : vCl c) (hN : 101 ≤ N) : F94 N chs cs M c d = some ((gnC cs c d.fr d.to).num, (gnC cs c d.fr d.to).den) := by
  unfold F94
  have h1 := worthOf_bd hv hn d.fr d.to
  have hc' := hc
  unfold vCl at hc'
  rw [F76_eq N chs cs M d ha hn hv hN, bindO_some, F101_eq N _ _ (by omega) (by omega) (by omega), bindO_some]
  rfl
/-- One gain is more than another. -/
def mt (g t : Gn) : Prop := t.num * g.den < g.num * t.den
instance (g t : Gn) : Decidable (mt g t) := by unfold mt; infer_instance
theorem F79_small {a b : Gn} (ha : smG a) (hb : smG b) : F79 a b = some (if mt b a then -1 else if mt a b then 1 else 0) := by
  unfold smG at ha hb
  exact F79_eq (by omega) (by omega) (by omega) (by omega)
theorem mt_asymm {a b : Gn} (h : mt a b) : ¬ mt b a := by unfold mt at *; omega
theorem cmp_pos {a b : Gn} : (0 < (if mt b a then (-1 : Int) else if mt a b then 1 else 0)) ↔ mt a b := by
  by_cases h1 : mt b a
  · rw [if_pos h1]; exact ⟨fun h => by omega, fun h => absurd h1 (mt_asymm h)⟩
  · rw [if_neg h1]
    by_cases h2 : mt a b
    · rw [if_pos h2]; exact ⟨fun _ => h2, fun _ => by omega⟩
    · rw [if_neg h2]; exact ⟨fun h => by omega, fun h => absurd h h2⟩
theorem cmp_neg {a b : Gn} : ((if mt b a then (-1 : Int) else if mt a b then 1 else 0) < 0) ↔ mt b a := by
  by_cases h1 : mt b a
  · rw [if_pos h1]; exact ⟨fun _ => h1, fun _ => by omega⟩
  · rw [if_neg h1]
    refine ⟨fun h => ?_, fun h => absurd h h1⟩
    split at h <;> omega
/-! the search -/
def fstTo (p : Int → Prop) [DecidablePred p] : Nat → Int → Option Int
  | 0, _ => none
  | n + 1, a => if p a then some a else fstTo p n (a + 1)
def hi2 (a b : Int) : Int := if a > b then a else b
def srch (cs : List Ce) (t : Gn) : List Cl → Int → List Dr × List Int × Bool
  | [], _ => ([], [], true)
  | c :: r, s =>
    match fstTo (fun x => mt (gnC cs c (hi2 c.fr s) x) t) (c.to + 1 - hi2 c.fr s).toNat (hi2 c.fr s) with
    | some x => (⟨hi2 c.fr s, x⟩ :: (srch cs t r (x + 1)).1, (x + 1) :: (srch cs t r (x + 1)).2.1, (srch cs t r (x + 1)).2.2)
    | none => ([], [hi2 (c.to + 1) (hi2 c.fr s) + 1], false)
theorem fstTo_some {p : Int → Prop} [DecidablePred p] : ∀ {n : Nat} {a x : Int}, fstTo p n a = some x → a ≤ x ∧ x < a + n ∧ p x
  | 0, a, x, h => by cases h
  | n + 1, a, x, h => by
    unfold fstTo at h
    split at h
    · injection h with h; subst h; exact ⟨by omega, by omega, by assumption⟩
    · have := fstTo_some h; refine ⟨by omega, by omega, this.2.2⟩
theorem F96l3_eq (chs : List Ch) (cs : List Ce) (M : Int → Option Int) (t : Gn) (N : Nat) (rec1 : List Dr → List Int → Int → Option (List Dr × List Int × Bool)) (ds : List Dr) (sts : List Int) (v : Int) (c : Cl) (s : Int)
    (hn : cs.length ≤ 24) (hv : ∀ c ∈ cs, vCe c) (hc : vCl c) (ht : smG t) (hs : 0 ≤ s ∧ s ≤ 100) (hd : ds.length ≤ 1000) (hst : sts.length ≤ 1000) (hN : 101 ≤ N) : ∀ (m : Nat) (x : Int), hi2 c.fr s ≤ x → x ≤ 200 → (c.to + 1 - x).toNat < m →
    F96l3 chs cs M t N rec1 ds sts v c s m x = match fstTo (fun x => mt (gnC cs c (hi2 c.fr s) x) t) (c.to + 1 - x).toNat x with
      | some y => F96j2 rec1 v (ds ++ [⟨hi2 c.fr s, y⟩]) (sts ++ [y + 1])
      | none => some (ds, sts ++ [hi2 (c.to + 1) (hi2 c.fr s) + 1], false) := by
  have hc' := hc
  unfold vCl at hc'
  have hf : 0 ≤ hi2 c.fr s ∧ hi2 c.fr s ≤ 100 := by unfold hi2; split <;> omega
  have hf2 : hi2 (c.to + 1) (hi2 c.fr s) ≤ 100 ∧ 0 ≤ hi2 (c.to + 1) (hi2 c.fr s) := by generalize hi2 c.fr s = f at hf; unfold hi2; split <;> omega
  intro m; induction m with
  | zero => intro x h1 h2 h3; omega
  | succ m ih =>
    intro x h1 h2 h3
    show F96b3 chs cs M t N rec1 ds sts v c s (F96l3 chs cs M t N rec1 ds sts v c s m) x = _
    unfold F96b3
    show (if x ≤ c.to then bindO (F94 N chs cs M c ⟨hi2 c.fr s, x⟩) _ else ckO (c.to + 1) (ckO (hi2 (c.to + 1) (hi2 c.fr s) + 1) (gdO (sts.length + 1 ≤ 1000000000) (some (ds, sts ++ [hi2 (c.to + 1) (hi2 c.fr s) + 1], false))))) = _
    by_cases hx : x ≤ c.to
    · have hg := gnC_ok hv hn hc (hi2 c.fr s) x
      have e : (c.to + 1 - x).toNat = (c.to + 1 - (x + 1)).toNat + 1 := by omega
      rw [if_pos hx, F94_eq N chs cs M c ⟨hi2 c.fr s, x⟩ hf.1 hn hv hc hN, bindO_some, F79_small hg.1 ht, bindO_some, e]
      unfold fstTo
      by_cases hm : mt (gnC cs c (hi2 c.fr s) x) t
      · rw [if_pos (cmp_pos.2 hm), if_pos hm, gdO_pos (by omega), ckO_pos (by unfold InR; omega), gdO_pos (by omega)]
        rfl
      · rw [if_neg (fun h => hm (cmp_pos.1 h)), if_neg hm, ckO_pos (by unfold InR; omega), ih (x + 1) (by omega) (by omega) (by omega)]
    · rw [if_neg hx, show (c.to + 1 - x).toNat = 0 by omega, ckO_pos (by unfold InR; omega), ckO_pos (by unfold InR; omega), gdO_pos (by omega)]
      rfl
theorem F96l1_eq (chs : List Ch) (cs : List Ce) (M : Int → Option Int) (l : List Cl) (t : Gn) (N : Nat) (hn : cs.length ≤ 24) (hv : ∀ c ∈ cs, vCe c) (hc : ∀ c ∈ l, vCl c) (hl : l.length ≤ 12) (ht : smG t) (hN : 101 ≤ N) : ∀ (m i : Nat) (ds : List Dr) (sts : List Int) (s : Int), ds.length ≤ i → sts.length = i + 1 → sts[i]? = some s → 0 ≤ s ∧ s ≤ 100 → i ≤ l.length → l.length < m + i →
    F96l1 chs cs M l t N m ds sts (i : Int) = some (ds ++ (srch cs t (l.drop i) s).1, sts ++ (srch cs t (l.drop i) s).2.1, (srch cs t (l.drop i) s).2.2) := by
  intro m; induction m with
  | zero => intro i ds sts s h1 h2 h3 h4 h0 h; omega
  | succ m ih =>
    intro i ds sts s k1 k2 k3 k4 h0 h
    show F96b1 chs cs M l t N (F96l1 chs cs M l t N m) ds sts (i : Int) = _
    unfold F96b1
    rcases drop_cases l i with ⟨h1, h2⟩ | ⟨c, h1, h2, h3⟩
    · rw [if_neg (by omega), h2]; simp [srch]
    · have hcc := hc c (List.mem_of_getElem? h2)
      have hcv := hcc
      unfold vCl at hcv
      rw [if_pos (by omega), gdO_pos (by omega), Int.toNat_natCast, h2, bindO_some, ckO_pos (by unfold InR; omega), gdO_pos (by omega), show ((sts.length : Int) - 1).toNat = i by omega, k3, bindO_some]
      show F96l3 chs cs M t N (F96l1 chs cs M l t N m) ds sts (i : Int) c s N (hi2 c.fr s) = _
      have hf : 0 ≤ hi2 c.fr s ∧ hi2 c.fr s ≤ 100 := by unfold hi2; split <;> omega
      rw [F96l3_eq chs cs M t N _ ds sts _ c s hn hv hcc ht k4 (by omega) (by omega) hN N (hi2 c.fr s) (by omega) (by omega) (by omega), h3]
      unfold srch
      cases hq : fstTo (fun x => mt (gnC cs c (hi2 c.fr s) x) t) (c.to + 1 - hi2 c.fr s).toNat (hi2 c.fr s) with
      | none => simp
      | some y =>
        have hy := fstTo_some hq
        show F96j2 _ _ _ _ = _
        unfold F96j2
        rw [ckO_pos (by unfold InR; omega), succ_cast, ih (i + 1) _ _ (y + 1) (by simp; omega) (by simp [k2]) (by rw [List.getElem?_append_right (by omega)]; simp [k2]) (by omega) (by omega) (by omega)]
        simp
theorem F96_eq (N : Nat) (chs : List Ch) (cs : List Ce) (M : Int → Option Int) (c : Cl) (r : List Cl) (t : Gn) (hn : cs.length ≤ 24) (hv : ∀ c ∈ cs, vCe c) (hc : ∀ x ∈ c :: r, vCl x) (hl : (c :: r).length ≤ 12) (ht : smG t) (hN : 101 ≤ N) :
    F96 N chs cs M (c :: r) t = some ((srch cs t (c :: r) c.fr).1, c.fr :: (srch cs t (c :: r) c.fr).2.1, (srch cs t (c :: r) c.fr).2.2) := by
  unfold F96
  have h0 := hc c (by simp)
  unfold vCl at h0
  rw [show (c :: r)[0]? = some c from rfl, bindO_some]
  have := F96l1_eq chs cs M (c :: r) t N hn hv hc hl ht hN N 0 [] [c.fr] c.fr (by simp) rfl rfl (by omega) (by omega) (by omega)
  simp only [List.drop_zero, Int.natCast_zero, List.nil_append] at this
  rw [this]; rfl
/-! sharings -/
def shL : List Cl → List Dr → Int → Prop
  | [], [], _ => True
  | c :: l, d :: ds, s => hi2 c.fr s ≤ d.fr ∧ d.fr ≤ d.to ∧ d.to ≤ c.to ∧ shL l ds (d.to + 1)
  | _, _, _ => False
instance shLD : (l : List Cl) → (ds : List Dr) → (s : Int) → Decidable (shL l ds s)
  | [], [], _ => isTrue trivial
  | c :: l, d :: ds, s => by unfold shL; have := shLD l ds (d.to + 1); infer_instance
  | [], _ :: _, _ => isFalse (fun h => h)
  | _ :: _, [], _ => isFalse (fun h => h)
theorem shL_cons (c : Cl) (l : List Cl) (d : Dr) (ds : List Dr) (s : Int) : shL (c :: l) (d :: ds) s ↔ hi2 c.fr s ≤ d.fr ∧ d.fr ≤ d.to ∧ d.to ≤ c.to ∧ shL l ds (d.to + 1) := ⟨fun h => h, fun h => h⟩
theorem shL_len : ∀ {l : List Cl} {ds : List Dr} {s : Int}, shL l ds s → ds.length = l.length
  | [], [], _, _ => rfl
  | c :: l, d :: ds, s, h => by simp [shL_len h.2.2.2]
def gainsL (cs : List Ce) (l : List Cl) (ds : List Dr) : List Gn := List.zipWith (fun c d => gnC cs c d.fr d.to) l ds
theorem srch_sh (cs : List Ce) (t : Gn) : ∀ (l : List Cl) (s : Int), (srch cs t l s).2.2 = true → shL l (srch cs t l s).1 s ∧ ∀ g ∈ gainsL cs l (srch cs t l s).1, mt g t
  | [], s, _ => ⟨trivial, fun g hg => by simp [gainsL] at hg⟩
  | c :: r, s, h => by
    unfold srch at h ⊢
    cases hq : fstTo (fun x => mt (gnC cs c (hi2 c.fr s) x) t) (c.to + 1 - hi2 c.fr s).toNat (hi2 c.fr s) with
    | none => rw [hq] at h; cases h
    | some x =>
      rw [hq] at h
      have hx := fstTo_some hq
      obtain ⟨h1, h2⟩ := srch_sh cs t r (x + 1) h
      refine ⟨⟨Int.le_refl _, hx.1, show x ≤ c.to by omega, h1⟩, fun g hg => ?_⟩
      simp only [gainsL, List.zipWith_cons_cons, List.mem_cons] at hg
      rcases hg with rfl | hg
      · exact hx.2.2
      · exact h2 g hg
end Go.K
