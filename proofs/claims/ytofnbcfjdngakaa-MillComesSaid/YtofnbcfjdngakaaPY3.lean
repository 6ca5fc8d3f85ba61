/- Closed forms of the checks of comers and mills, of With and Without, of the program and of the reference, and MillChecks. No condition. -/
import Derived.Test.YtofnbcfjdngakaaPY1
namespace Go.K
open Go.RowKit
set_option linter.unusedVariables false
set_option linter.unusedSimpArgs false
theorem drop_cases {α : Type} (l : List α) (i : Nat) : (l.length ≤ i ∧ l.drop i = []) ∨ (∃ c, i < l.length ∧ l[i]? = some c ∧ l.drop i = c :: l.drop (i + 1)) := by
  rcases Nat.lt_or_ge i l.length with h | h
  · exact .inr ⟨l[i], h, List.getElem?_eq_getElem h, List.drop_eq_getElem_cons h⟩
  · exact .inl ⟨h, List.drop_eq_nil_of_le h⟩
theorem succ_cast (i : Nat) : (i : Int) + 1 = ((i + 1 : Nat) : Int) := by omega
def vCm (c : Cm) : Prop := (1 ≤ c.fam ∧ c.fam ≤ 99) ∧ (0 ≤ c.hrs ∧ c.hrs ≤ 16777215) ∧ 0 ≤ c.wants ∧ c.wants ≤ 24
instance (c : Cm) : Decidable (vCm c) := by unfold vCm; infer_instance
theorem F21_eq (c : Cm) : F21 c = some (if vCm c then 0 else 51) := by
  unfold F21
  rw [F70_eq, bindO_some]
  by_cases h1 : 1 ≤ c.fam ∧ c.fam ≤ 99
  · rw [decide_eq_true h1, if_pos rfl, F70_eq, bindO_some]
    by_cases h2 : 0 ≤ c.hrs ∧ c.hrs ≤ 16777215
    · rw [decide_eq_true h2, if_pos rfl, F70_eq, bindO_some]
      by_cases h3 : 0 ≤ c.wants ∧ c.wants ≤ 24
      · rw [decide_eq_true h3, if_pos rfl, if_pos (show vCm c from ⟨h1, h2, h3⟩)]
      · rw [decide_eq_false h3, if_neg (by decide), if_neg (show ¬ vCm c from fun h => h3 h.2.2)]
    · rw [decide_eq_false h2, if_neg (by decide), if_neg (show ¬ vCm c from fun h => h2 h.2.1)]
  · rw [decide_eq_false h1, if_neg (by decide), if_neg (show ¬ vCm c from fun h => h1 h.1)]
theorem F22_eq (c : Cm) : F22 c = some (if vCm c then 0 else 51) := F21_eq c
/-! where a family stands -/
def ixOf (p : Int) : List Cm → Nat → Int
  | [], _ => -1
  | c :: r, i => if c.fam = p then i else ixOf p r (i + 1)
theorem F65l1_eq (l : List Cm) (p : Int) (hn : l.length ≤ 1000) : ∀ (m i : Nat), i ≤ l.length → l.length < m + i → F65l1 l p m (i : Int) = some (ixOf p (l.drop i) i) := by
  intro m
  induction m with
  | zero => intro i h1 h2; omega
  | succ m ih =>
    intro i h1 h2
    show F65b1 l p (F65l1 l p m) i = _
    unfold F65b1
    rcases drop_cases l i with ⟨h, e⟩ | ⟨c, h, hc, e⟩
    · rw [if_neg (by omega), e]; rfl
    · rw [if_pos (by omega), gdO_pos (by omega), Int.toNat_natCast, hc, bindO_some, e]
      by_cases hf : c.fam = p
      · rw [if_pos hf]; simp [ixOf, hf]
      · rw [if_neg hf, ckO_pos (by unfold InR; omega), succ_cast, ih (i + 1) h (by omega)]; simp [ixOf, hf]
theorem F98l1_eq (l : List Cm) (p : Int) (hn : l.length ≤ 1000) : ∀ (m i : Nat), i ≤ l.length → l.length < m + i → F98l1 l p m (i : Int) = some (ixOf p (l.drop i) i) := by
  intro m
  induction m with
  | zero => intro i h1 h2; omega
  | succ m ih =>
    intro i h1 h2
    show F98b1 l p (F98l1 l p m) i = _
    unfold F98b1
    rcases drop_cases l i with ⟨h, e⟩ | ⟨c, h, hc, e⟩
    · rw [if_neg (by omega), e]; rfl
    · rw [if_pos (by omega), gdO_pos (by omega), Int.toNat_natCast, hc, bindO_some, e]
      by_cases hf : c.fam = p
      · rw [if_pos hf]; simp [ixOf, hf, F98j2]
      · rw [if_neg hf]
        unfold F98j2
        rw [if_neg (by decide), ckO_pos (by unfold InR; omega), succ_cast, ih (i + 1) h (by omega)]; simp [ixOf, hf]
theorem F65_eq (N : Nat) (h : Int) (l : List Cm) (p : Int) (hn : l.length ≤ 12) (hN : 100 ≤ N) : F65 N h l p = some (ixOf p l 0) := F65l1_eq l p (by omega) N 0 (by omega) (by omega)
theorem F98_eq (N : Nat) (h : Int) (l : List Cm) (p : Int) (hn : l.length ≤ 12) (hN : 100 ≤ N) : F98 N h l p = some (ixOf p l 0) := F98l1_eq l p (by omega) N 0 (by omega) (by omega)
theorem ix_none (p : Int) : ∀ (l : List Cm) (i : Nat), ixOf p l i = -1 ↔ ∀ c ∈ l, c.fam ≠ p
  | [], i => by simp [ixOf]
  | c :: r, i => by
    unfold ixOf
    by_cases h : c.fam = p
    · rw [if_pos h]; constructor
      · intro e; omega
      · intro e; exact absurd h (e c (List.mem_cons_self ..))
    · rw [if_neg h, ix_none p r (i + 1)]
      exact ⟨fun e x hx => (List.mem_cons.1 hx).elim (fun q => q ▸ h) (e x), fun e x hx => e x (List.mem_cons_of_mem _ hx)⟩
theorem ix_some (p : Int) : ∀ (l : List Cm) (i k : Nat) (c : Cm), l[k]? = some c → c.fam = p → (ixOf p l i = ((i + k : Nat) : Int) ↔ ∀ x ∈ l.take k, x.fam ≠ p)
  | [], i, k, c, h, _ => by simp at h
  | d :: r, i, 0, c, h, hp => by
    simp at h; subst h
    simp [ixOf, hp]
  | d :: r, i, k + 1, c, h, hp => by
    have h' : r[k]? = some c := by simpa using h
    unfold ixOf
    by_cases hd : d.fam = p
    · rw [if_pos hd]
      constructor
      · intro e; omega
      · intro e; exact absurd hd (e d (by simp))
    · rw [if_neg hd, show i + (k + 1) = (i + 1) + k by omega, ix_some p r (i + 1) k c h' hp]
      simp [hd]
/-! the check -/
theorem p2_bd {h : Int} (hh : 0 ≤ h ∧ h ≤ 24) : 1 ≤ (2 : Int) ^ h.toNat ∧ (2 : Int) ^ h.toNat ≤ 16777216 := by
  have h1 : ∀ n, n < 25 → (1 : Int) ≤ 2 ^ n ∧ (2 : Int) ^ n ≤ 16777216 := by decide
  exact h1 _ (by omega)
def fits (h : Int) (l : List Cm) (c : Cm) : Prop := vCm c ∧ c.hrs < 2 ^ h.toNat ∧ ∀ x ∈ l, x.fam ≠ c.fam
theorem F63_eq (N : Nat) (h : Int) (l : List Cm) (c : Cm) (hh : 0 ≤ h ∧ h ≤ 24) (hn : l.length ≤ 12) (hN : 100 ≤ N) : ∃ t, F63 N h l c = some t ∧ (t = true ↔ fits h l c) := by
  have hp := p2_bd hh
  unfold F63
  rw [F21_eq, bindO_some]
  by_cases hv : vCm c
  · rw [if_pos hv, if_pos rfl, gdO_pos (by omega)]
    have hv' := hv
    unfold vCm at hv'
    have hd : c.hrs.fdiv (2 ^ h.toNat) = 0 ↔ c.hrs < 2 ^ h.toNat := by
      rw [Int.fdiv_eq_ediv_of_nonneg _ (by omega)]
      constructor
      · intro e
        rcases Int.lt_or_le c.hrs (2 ^ h.toNat) with q | q
        · exact q
        · have := Int.le_ediv_of_mul_le (a := 1) (b := c.hrs) (c := 2 ^ h.toNat) (by omega) (by omega); omega
      · intro q; exact Int.ediv_eq_zero_of_lt (by omega) q
    by_cases hq : c.hrs < 2 ^ h.toNat
    · rw [if_pos (hd.2 hq), F98_eq N h l c.fam hn hN, bindO_some]
      by_cases hi : ixOf c.fam l 0 = -1
      · rw [if_pos hi]; exact ⟨true, rfl, by simp [fits, hv, hq]; exact (ix_none _ _ _).1 hi⟩
      · rw [if_neg hi]; exact ⟨false, rfl, by simpa using fun q => hi ((ix_none _ _ _).2 q.2.2)⟩
    · rw [if_neg (fun e => hq (hd.1 e))]; exact ⟨false, rfl, by simpa using fun q => hq q.2.1⟩
  · rw [if_neg hv, if_neg (by decide)]; exact ⟨false, rfl, by simpa using fun q => hv q.1⟩
theorem loops23 (N : Nat) (h : Int) (l : List Cm) (hh : 0 ≤ h ∧ h ≤ 24) (hn : l.length ≤ 12) (hN : 100 ≤ N) : ∀ (m i : Nat), i ≤ l.length → l.length < m + i →
    ∃ z, F23l1 h l N m (i : Int) = some z ∧ F24l1 h l N m (i : Int) = some z ∧ (z = 0 ∨ z = 52) ∧ (z = 0 → ∀ (k : Nat) c, i ≤ k → l[k]? = some c → fits h (l.take k) c) := by
  intro m
  have hp := p2_bd hh
  induction m with
  | zero => intro i h1 h2; omega
  | succ m ih =>
    intro i h1 h2
    show ∃ z, F23b1 h l N (F23l1 h l N m) i = some z ∧ F24b1 h l N (F24l1 h l N m) i = some z ∧ _
    unfold F23b1 F24b1
    rcases drop_cases l i with ⟨hi, e⟩ | ⟨c, hi, hc, e⟩
    · rw [if_neg (by omega), if_neg (by omega)]
      refine ⟨0, rfl, rfl, .inl rfl, fun _ k c hk hc => ?_⟩
      rw [List.getElem?_eq_none (by omega)] at hc; cases hc
    · rw [if_pos (by omega), if_pos (by omega), gdO_pos (by omega), gdO_pos (by omega), Int.toNat_natCast, hc, bindO_some, bindO_some, gdO_pos (by omega), List.drop_zero, Nat.sub_zero]
      obtain ⟨t, et, ht⟩ := F63_eq N h (l.take i) c hh (by rw [List.length_take]; omega) hN
      rw [et, bindO_some, F22_eq, bindO_some]
      have hix := ix_some c.fam l 0 i c hc rfl
      rw [Nat.zero_add] at hix
      cases t with
      | true =>
        have hf := ht.1 rfl
        rw [if_pos rfl, ckO_pos (by unfold InR; omega), if_pos hf.1, if_pos rfl, gdO_pos (by omega), ckO_pos (by unfold InR; omega), if_neg (by have := hf.2.1; omega), F65_eq N h l c.fam hn hN, bindO_some, if_pos (hix.2 hf.2.2), ckO_pos (by unfold InR; omega), succ_cast]
        obtain ⟨z, e1, e2, e0, e3⟩ := ih (i + 1) hi (by omega)
        refine ⟨z, e1, e2, e0, fun hz k d hk hd => ?_⟩
        rcases Nat.eq_or_lt_of_le hk with rfl | hk
        · rw [hc] at hd; injection hd with hd; subst hd; exact hf
        · exact e3 hz k d hk hd
      | false =>
        have hf : ¬ fits h (l.take i) c := fun q => by have := ht.2 q; cases this
        rw [if_neg (by decide)]
        refine ⟨52, rfl, ?_, .inr rfl, fun q => by omega⟩
        by_cases hv : vCm c
        · rw [if_pos hv, if_pos rfl, gdO_pos (by omega), ckO_pos (by unfold InR; omega)]
          by_cases hq : 1 * 2 ^ h.toNat ≤ c.hrs
          · rw [if_pos hq]
          · rw [if_neg hq, F65_eq N h l c.fam hn hN, bindO_some, if_neg (fun q => hf ⟨hv, by omega, hix.1 q⟩)]
        · rw [if_neg hv, if_neg (by decide)]
def okM (h : Int) (l : List Cm) : Prop := (0 ≤ h ∧ h ≤ 24) ∧ l.length ≤ 12 ∧ ∀ (k : Nat) c, l[k]? = some c → fits h (l.take k) c
theorem F2324 (N : Nat) (h : Int) (l : List Cm) (hN : 100 ≤ N) : ∃ z, F23 N h l = some z ∧ F24 N h l = some z ∧ (z = 0 ∨ z = 52) ∧ (z = 0 → okM h l) := by
  unfold F23 F24
  rw [F70_eq, bindO_some, F71_eq, bindO_some]
  by_cases hh : 0 ≤ h ∧ h ≤ 24
  · rw [decide_eq_true hh, if_pos rfl, if_pos rfl]
    by_cases hl : 12 < (l.length : Int)
    · rw [if_pos hl, if_pos hl]; exact ⟨52, rfl, rfl, .inr rfl, fun q => by omega⟩
    · rw [if_neg hl, if_neg hl]
      obtain ⟨z, e1, e2, e0, e3⟩ := loops23 N h l hh (by omega) hN N 0 (by omega) (by omega)
      exact ⟨z, e1, e2, e0, fun hz => ⟨hh, by omega, fun k c hc => e3 hz k c (by omega) hc⟩⟩
  · rw [decide_eq_false hh, if_neg (by decide), if_neg (by decide)]; exact ⟨52, rfl, rfl, .inr rfl, fun q => by omega⟩
theorem ix_ge (p : Int) : ∀ (l : List Cm) (i : Nat), ixOf p l i = -1 ∨ ∃ (k : Nat) (c : Cm), ixOf p l i = ((i + k : Nat) : Int) ∧ l[k]? = some c ∧ c.fam = p
  | [], i => .inl rfl
  | d :: r, i => by
    unfold ixOf
    by_cases h : d.fam = p
    · rw [if_pos h]; exact .inr ⟨0, d, rfl, rfl, h⟩
    · rw [if_neg h]
      rcases ix_ge p r (i + 1) with e | ⟨k, c, e, h1, h2⟩
      · exact .inl e
      · exact .inr ⟨k + 1, c, by rw [e]; omega, by simpa using h1, h2⟩
theorem F68l1_eq (h : Int) (l : List Cm) (p : Int) (hn : l.length ≤ 1000) : ∀ (m i : Nat) (o : List Cm), o.length ≤ i → i ≤ l.length → l.length < m + i → F68l1 h l p m o (i : Int) = some (h, o ++ (l.drop i).filter fun c => decide (c.fam ≠ p)) := by
  intro m
  induction m with
  | zero => intro i o _ h1 h2; omega
  | succ m ih =>
    intro i o ho h1 h2
    show F68b1 h l p (F68l1 h l p m) o i = _
    unfold F68b1
    rcases drop_cases l i with ⟨hi, e⟩ | ⟨c, hi, hc, e⟩
    · rw [if_neg (by omega), e]; simp
    · rw [if_pos (by omega), gdO_pos (by omega), Int.toNat_natCast, hc, bindO_some, e]
      by_cases hf : c.fam = p
      · rw [if_pos hf]
        unfold F68j2
        rw [ckO_pos (by unfold InR; omega), succ_cast, ih (i + 1) o (by omega) hi (by omega)]; simp [hf]
      · rw [if_neg hf, gdO_pos (by omega)]
        unfold F68j2
        rw [ckO_pos (by unfold InR; omega), succ_cast, ih (i + 1) _ (by simp; omega) hi (by omega)]; simp [hf]
theorem filter_del {h : Int} {l : List Cm} (ok : okM h l) {k : Nat} {c : Cm} (hc : l[k]? = some c) : (l.filter fun d => decide (d.fam ≠ c.fam)) = l.take k ++ l.drop (k + 1) := by
  have hk : k < l.length := (List.getElem?_eq_some_iff.1 hc).1
  have hck : l[k] = c := (List.getElem?_eq_some_iff.1 hc).2
  have e : l = l.take k ++ c :: l.drop (k + 1) := by
    rw [← hck, ← List.drop_eq_getElem_cons hk, List.take_append_drop]
  have h1 := (ok.2.2 k c hc).2.2
  have h2 : ∀ x ∈ l.drop (k + 1), x.fam ≠ c.fam := fun x hx => by
    obtain ⟨j, hj⟩ := List.mem_iff_getElem?.1 hx
    rw [List.getElem?_drop] at hj
    have := (ok.2.2 _ x hj).2.2 c (List.mem_iff_getElem?.2 ⟨k, by rw [List.getElem?_take]; simp [hc]; omega⟩)
    exact fun q => this q.symm
  conv => lhs; rw [e]
  rw [List.filter_append, List.filter_cons_of_neg (by simp)]
  congr 1
  · exact List.filter_eq_self.2 fun x hx => by simpa using h1 x hx
  · exact List.filter_eq_self.2 fun x hx => by simpa using h2 x hx
end Go.K
