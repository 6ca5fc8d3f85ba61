/- What numbers determine is a valid ground with valid claims. No condition. -/
import Derived.Test.YtkmnjiejlgoglaaPY3
import Derived.Test.YtkmnjiejlgoglaaPOn
namespace Go.K
open Go.RowKit
set_option linter.unusedVariables false
set_option linter.unusedSimpArgs false
theorem tmod_bd (n m : Int) (h : 0 < m) : -m < n.tmod m ∧ n.tmod m < m := by
  refine ⟨?_, Int.tmod_lt_of_pos n h⟩
  have := Int.lt_tmod_of_pos n h
  omega
theorem F56_eq (n m : Int) (h : 0 < m) (hm : m ≤ 1000000) : ∃ r, F56 n m = some r ∧ 0 ≤ r ∧ r < m := by
  have h1 := tmod_bd n m h
  unfold F56
  rw [gdO_pos h, ckO_pos (by unfold InR; omega)]
  exact ⟨_, rfl, Int.tmod_nonneg _ (by omega), Int.tmod_lt_of_pos _ h⟩
def gCh (u : List Ch) : Prop := ∀ (j : Nat) (c : Ch), u[j]? = some c → c.id = 1 + (j : Int) ∧ 90 ≤ c.lo ∧ c.lo ≤ c.hi ∧ c.hi ≤ 130
def gCe (k : Nat) (u : List Ce) : Prop := ∀ c ∈ u, (1 ≤ c.ch ∧ c.ch ≤ (k : Int)) ∧ (1 ≤ c.ln ∧ c.ln ≤ 9) ∧ 0 ≤ c.wo ∧ c.wo ≤ 11
def gCl (k : Nat) (u : List Cl) : Prop := ∀ (j : Nat) (c : Cl), u[j]? = some c → c.fam = 3 + 2 * (j : Int) ∧ (1 ≤ c.hd ∧ c.hd ≤ 4) ∧ 0 ≤ c.fr ∧ c.fr ≤ c.to ∧ c.to < (k : Int)
theorem get_snoc {α : Type} {u : List α} {x c : α} {j : Nat} (h : (u ++ [x])[j]? = some c) : u[j]? = some c ∨ (j = u.length ∧ c = x) := by
  rcases Nat.lt_trichotomy j u.length with h1 | h1 | h1
  · rw [List.getElem?_append_left h1] at h; exact .inl h
  · subst h1; rw [List.getElem?_append_right (by omega)] at h; simp at h; exact .inr ⟨rfl, h.symm⟩
  · rw [List.getElem?_eq_none (by simp; omega)] at h; cases h
theorem F54j14_eq (rec : List Ch → Int → Option (List Ch × List Ce × List Cl)) (u : List Ch) (hu : gCh u) (hl : u.length ≤ 3) (a b : Int) : ∃ c, F54j14 rec u (u.length : Int) a b = rec (u ++ [c]) ((u.length + 1 : Nat) : Int) ∧ gCh (u ++ [c]) := by
  unfold F54j14
  obtain ⟨r, h1, h2, h3⟩ := F56_eq a 20 (by omega) (by omega)
  obtain ⟨s, k1, k2, k3⟩ := F56_eq b 12 (by omega) (by omega)
  rw [ckO_pos (by unfold InR; omega), h1, bindO_some, ckO_pos (by unfold InR; omega), k1, bindO_some, ckO_pos (by unfold InR; omega), gdO_pos (by omega), ckO_pos (by unfold InR; omega), succ_cast]
  refine ⟨_, rfl, fun j c hj => ?_⟩
  rcases get_snoc hj with h | ⟨rfl, rfl⟩
  · exact hu j c h
  · exact ⟨rfl, by show 90 ≤ 90 + r; omega, by show 90 + r ≤ 90 + r + s; omega, by show 90 + r + s ≤ 130; omega⟩
theorem F54j13_eq (r0 : List A2) (rec : List Ch → Int → Option (List Ch × List Ce × List Cl)) (u : List Ch) (hu : gCh u) (hl : u.length ≤ 3) : ∃ c, F54j13 r0 rec u (u.length : Int) = rec (u ++ [c]) ((u.length + 1 : Nat) : Int) ∧ gCh (u ++ [c]) := by
  unfold F54j13
  split
  · have hc : r0[(u.length : Int).toNat]? = some (r0[(u.length : Int).toNat]'(by omega)) := List.getElem?_eq_getElem _
    rw [gdO_pos (by omega), hc, bindO_some]
    exact F54j14_eq rec u hu hl _ _
  · exact F54j14_eq rec u hu hl _ _
theorem F54l12_eq (r0 : List A2) (r1 r2 : List A3) (N : Nat) : ∀ (m : Nat) (u : List Ch), gCh u → u.length ≤ 3 → 4 < m + u.length → ∃ u', F54l12 r0 r1 r2 N m u (u.length : Int) = F54j1 r1 r2 N u' ∧ gCh u' ∧ 1 ≤ u'.length ∧ u'.length ≤ 3 := by
  intro m; induction m with
  | zero => intro u hu h3 h; omega
  | succ m ih =>
    intro u hu h3 h
    have step : u.length < 3 → ∃ u', F54j13 r0 (F54l12 r0 r1 r2 N m) u (u.length : Int) = F54j1 r1 r2 N u' ∧ gCh u' ∧ 1 ≤ u'.length ∧ u'.length ≤ 3 := fun hlt => by
      obtain ⟨c, h1, h2⟩ := F54j13_eq r0 (F54l12 r0 r1 r2 N m) u hu (by omega)
      obtain ⟨u', k1, k2⟩ := ih (u ++ [c]) h2 (by simp; omega) (by simp; omega)
      refine ⟨u', h1.trans ?_, k2⟩
      rw [← k1]; simp
    show ∃ u', F54b12 r0 r1 r2 N (F54l12 r0 r1 r2 N m) u (u.length : Int) = _ ∧ _
    unfold F54b12 F54j15
    by_cases h1 : (u.length : Int) < (r0.length : Int)
    · rw [if_pos h1]
      by_cases h2 : (u.length : Int) < 3
      · rw [if_pos h2]; exact step (by omega)
      · rw [if_neg h2, if_neg (by omega)]; exact ⟨u, rfl, hu, by omega, h3⟩
    · rw [if_neg h1]
      by_cases h2 : (u.length : Int) = 0
      · rw [if_pos h2]; exact step (by omega)
      · rw [if_neg h2]; exact ⟨u, rfl, hu, by omega, h3⟩
theorem F54j10_eq (rec : List Ce → Int → Option (List Ch × List Ce × List Cl)) (w : List Ch) (hw : 1 ≤ w.length ∧ w.length ≤ 3) (u : List Ce) (hu : gCe w.length u) (hl : u.length ≤ 10) (a b d : Int) : ∃ c, F54j10 rec w u (u.length : Int) a b d = rec (u ++ [c]) ((u.length + 1 : Nat) : Int) ∧ gCe w.length (u ++ [c]) := by
  unfold F54j10 F54j9
  obtain ⟨r, h1, h2, h3⟩ := F56_eq a w.length (by omega) (by omega)
  obtain ⟨s, k1, k2, k3⟩ := F56_eq b 9 (by omega) (by omega)
  obtain ⟨t, l1, l2, l3⟩ := F56_eq d 12 (by omega) (by omega)
  rw [h1, bindO_some, ckO_pos (by unfold InR; omega), k1, bindO_some, ckO_pos (by unfold InR; omega), l1, bindO_some, gdO_pos (by omega), ckO_pos (by unfold InR; omega), succ_cast]
  refine ⟨_, rfl, fun c hc => ?_⟩
  rcases List.mem_append.1 hc with h | h
  · exact hu c h
  · simp at h; subst h
    exact ⟨by show 1 ≤ 1 + r ∧ 1 + r ≤ _; omega, by show 1 ≤ 1 + s ∧ 1 + s ≤ 9; omega, by show 0 ≤ t ∧ t ≤ 11; omega⟩
theorem F54j8_eq (r1 : List A3) (rec : List Ce → Int → Option (List Ch × List Ce × List Cl)) (w : List Ch) (hw : 1 ≤ w.length ∧ w.length ≤ 3) (u : List Ce) (hu : gCe w.length u) (hl : u.length ≤ 10) : ∃ c, F54j8 r1 rec w u (u.length : Int) = rec (u ++ [c]) ((u.length + 1 : Nat) : Int) ∧ gCe w.length (u ++ [c]) := by
  unfold F54j8
  split
  · have hc : r1[(u.length : Int).toNat]? = some (r1[(u.length : Int).toNat]'(by omega)) := List.getElem?_eq_getElem _
    rw [gdO_pos (by omega), hc, bindO_some]
    exact F54j10_eq rec w hw u hu hl _ _ _
  · exact F54j10_eq rec w hw u hu hl _ _ _
theorem F54l7_eq (r1 r2 : List A3) (N : Nat) (w : List Ch) (hw : 1 ≤ w.length ∧ w.length ≤ 3) : ∀ (m : Nat) (u : List Ce), gCe w.length u → u.length ≤ 10 → 11 < m + u.length → ∃ u', F54l7 r1 r2 N w m u (u.length : Int) = F54j2 r2 N w u' ∧ gCe w.length u' ∧ 1 ≤ u'.length ∧ u'.length ≤ 10 := by
  intro m; induction m with
  | zero => intro u hu h3 h; omega
  | succ m ih =>
    intro u hu h3 h
    have step : u.length < 10 → ∃ u', F54j8 r1 (F54l7 r1 r2 N w m) w u (u.length : Int) = F54j2 r2 N w u' ∧ gCe w.length u' ∧ 1 ≤ u'.length ∧ u'.length ≤ 10 := fun hlt => by
      obtain ⟨c, h1, h2⟩ := F54j8_eq r1 (F54l7 r1 r2 N w m) w hw u hu (by omega)
      obtain ⟨u', k1, k2⟩ := ih (u ++ [c]) h2 (by simp; omega) (by simp; omega)
      refine ⟨u', h1.trans ?_, k2⟩
      rw [← k1]; simp
    show ∃ u', F54b7 r1 r2 N w (F54l7 r1 r2 N w m) u (u.length : Int) = _ ∧ _
    unfold F54b7 F54j11
    by_cases h1 : (u.length : Int) < (r1.length : Int)
    · rw [if_pos h1]
      by_cases h2 : (u.length : Int) < 10
      · rw [if_pos h2]; exact step (by omega)
      · rw [if_neg h2, if_neg (by omega)]; exact ⟨u, rfl, hu, by omega, h3⟩
    · rw [if_neg h1]
      by_cases h2 : (u.length : Int) = 0
      · rw [if_pos h2]; exact step (by omega)
      · rw [if_neg h2]; exact ⟨u, rfl, hu, by omega, h3⟩
theorem F54j5_eq (rec : List Cl → Int → Option (List Ch × List Ce × List Cl)) (w : List Ce) (hw : 1 ≤ w.length ∧ w.length ≤ 10) (u : List Cl) (hu : gCl w.length u) (hl : u.length ≤ 6) (a b d : Int) : ∃ c, F54j5 rec w u (u.length : Int) a b d = rec (u ++ [c]) ((u.length + 1 : Nat) : Int) ∧ gCl w.length (u ++ [c]) := by
  unfold F54j5 F54j6
  obtain ⟨r, h1, h2, h3⟩ := F56_eq a 4 (by omega) (by omega)
  obtain ⟨s, k1, k2, k3⟩ := F56_eq b w.length (by omega) (by omega)
  obtain ⟨t, l1, l2, l3⟩ := F56_eq d ((w.length : Int) - s) (by omega) (by omega)
  rw [ckO_pos (by unfold InR; omega), ckO_pos (by unfold InR; omega), h1, bindO_some, ckO_pos (by unfold InR; omega), k1, bindO_some, ckO_pos (by unfold InR; omega), l1, bindO_some, ckO_pos (by unfold InR; omega), gdO_pos (by omega), ckO_pos (by unfold InR; omega), succ_cast]
  refine ⟨_, rfl, fun j c hj => ?_⟩
  rcases get_snoc hj with h | ⟨rfl, rfl⟩
  · exact hu j c h
  · exact ⟨rfl, by show 1 ≤ 1 + r ∧ 1 + r ≤ 4; omega, by show 0 ≤ s; omega, by show s ≤ s + t; omega, by show s + t < _; omega⟩
theorem F54j4_eq (r2 : List A3) (rec : List Cl → Int → Option (List Ch × List Ce × List Cl)) (w : List Ce) (hw : 1 ≤ w.length ∧ w.length ≤ 10) (u : List Cl) (hu : gCl w.length u) (hl : u.length ≤ 6) : ∃ c, F54j4 r2 rec w u (u.length : Int) = rec (u ++ [c]) ((u.length + 1 : Nat) : Int) ∧ gCl w.length (u ++ [c]) := by
  unfold F54j4
  split
  · have hc : r2[(u.length : Int).toNat]? = some (r2[(u.length : Int).toNat]'(by omega)) := List.getElem?_eq_getElem _
    rw [gdO_pos (by omega), hc, bindO_some]
    exact F54j5_eq rec w hw u hu hl _ _ _
  · exact F54j5_eq rec w hw u hu hl _ _ _
theorem F54l3_eq (r2 : List A3) (v : List Ch) (w : List Ce) (hw : 1 ≤ w.length ∧ w.length ≤ 10) : ∀ (m : Nat) (u : List Cl), gCl w.length u → u.length ≤ 6 → 7 < m + u.length → ∃ u', F54l3 r2 v w m u (u.length : Int) = some (v, w, u') ∧ gCl w.length u' ∧ 1 ≤ u'.length ∧ u'.length ≤ 6 := by
  intro m; induction m with
  | zero => intro u hu h3 h; omega
  | succ m ih =>
    intro u hu h3 h
    have step : u.length < 6 → ∃ u', F54j4 r2 (F54l3 r2 v w m) w u (u.length : Int) = some (v, w, u') ∧ gCl w.length u' ∧ 1 ≤ u'.length ∧ u'.length ≤ 6 := fun hlt => by
      obtain ⟨c, h1, h2⟩ := F54j4_eq r2 (F54l3 r2 v w m) w hw u hu (by omega)
      obtain ⟨u', k1, k2⟩ := ih (u ++ [c]) h2 (by simp; omega) (by simp; omega)
      refine ⟨u', h1.trans ?_, k2⟩
      rw [← k1]; simp
    show ∃ u', F54b3 r2 v w (F54l3 r2 v w m) u (u.length : Int) = _ ∧ _
    unfold F54b3
    by_cases h1 : (u.length : Int) < (r2.length : Int)
    · rw [if_pos h1]
      by_cases h2 : (u.length : Int) < 6
      · rw [if_pos h2]; exact step (by omega)
      · rw [if_neg h2, if_neg (by omega)]; exact ⟨u, rfl, hu, by omega, h3⟩
    · rw [if_neg h1]
      by_cases h2 : (u.length : Int) = 0
      · rw [if_pos h2]; exact step (by omega)
      · rw [if_neg h2]; exact ⟨u, rfl, hu, by omega, h3⟩
theorem gCh_ok : ∀ (l : List Ch) (k : Nat), (∀ (j : Nat) (c : Ch), l[j]? = some c → c.id = 1 + (k : Int) + j ∧ 90 ≤ c.lo ∧ c.lo ≤ c.hi ∧ c.hi ≤ 130) → l.length + k ≤ 50 → okChs k l
  | [], _, _, _ => trivial
  | c :: l, k, h, hl => by
    have h0 := h 0 c rfl
    simp only [List.length_cons] at hl
    refine ⟨by unfold vCh; omega, by omega, ?_⟩
    have e : c.id = ((k + 1 : Nat) : Int) := by omega
    rw [e]
    exact gCh_ok l (k + 1) (fun j d hd => by have := h (j + 1) d (by simpa using hd); omega) (by omega)
theorem gCh_fst : ∀ (l : List Ch) (k : Nat), (∀ (j : Nat) (c : Ch), l[j]? = some c → c.id = 1 + (k : Int) + j ∧ 90 ≤ c.lo ∧ c.lo ≤ c.hi ∧ c.hi ≤ 130) → ∀ n : Int, (k : Int) < n → n ≤ (k : Int) + l.length → 0 ≤ fstCh k l n
  | [], k, _, n, h1, h2 => by simp at h2; omega
  | c :: l, k, h, n, h1, h2 => by
    have h0 := h 0 c rfl
    simp only [List.length_cons] at h2
    unfold fstCh
    split
    · omega
    · exact gCh_fst l (k + 1) (fun j d hd => by have := h (j + 1) d (by simpa using hd); omega) n (by omega) (by omega)
theorem gCl_ok (n : Nat) : ∀ (l : List Cl) (k : Nat) (seen : List Int), (∀ (j : Nat) (c : Cl), l[j]? = some c → c.fam = 3 + 2 * ((k : Int) + j) ∧ (1 ≤ c.hd ∧ c.hd ≤ 4) ∧ 0 ≤ c.fr ∧ c.fr ≤ c.to ∧ c.to < (n : Int)) → (∀ x ∈ seen, x < 3 + 2 * (k : Int)) → n ≤ 24 → l.length + k ≤ 20 → okL n seen l
  | [], _, _, _, _, _, _ => trivial
  | c :: l, k, seen, h, hs, hn, hl => by
    have h0 := h 0 c rfl
    simp only [List.length_cons] at hl
    refine ⟨by unfold vCl; omega, by omega, fun hm => by have := hs _ hm; omega, ?_⟩
    exact gCl_ok n l (k + 1) _ (fun j d hd => by have := h (j + 1) d (by simpa using hd); omega) (fun x hx => by
      rcases List.mem_cons.1 hx with rfl | hx
      · omega
      · have := hs x hx; omega) hn (by omega)
/-- A ground, and claims, as numbers determine them. -/
structure Made4 (chs : List Ch) (cs : List Ce) (l : List Cl) : Prop where
  g : okG chs cs
  c : okC cs l
  n1 : chs.length ≤ 3
  n2 : cs.length ≤ 10
  n3 : l.length ≤ 6
  wo : ∀ c ∈ cs, 0 ≤ c.wo ∧ c.wo ≤ 11
theorem F54_eq (N : Nat) (r0 : List A2) (r1 r2 : List A3) (hN : 20 ≤ N) : ∃ chs cs l, F54 N r0 r1 r2 = some (chs, cs, l) ∧ Made4 chs cs l := by
  unfold F54
  obtain ⟨chs, h1, h2, h3, h4⟩ := F54l12_eq r0 r1 r2 N N [] (fun j c h => by simp at h) (by simp) (by simp; omega)
  obtain ⟨cs, k1, k2, k3, k4⟩ := F54l7_eq r1 r2 N chs ⟨h3, h4⟩ N [] (fun c h => by simp at h) (by simp) (by simp; omega)
  obtain ⟨l, l1, l2, l3, l4⟩ := F54l3_eq r2 chs cs ⟨k3, k4⟩ N [] (fun j c h => by simp at h) (by simp) (by simp; omega)
  refine ⟨chs, cs, l, ?_, ?_, ?_, h4, k4, l4, fun c hc => by have := k2 c hc; omega⟩
  · simp only [List.length_nil, Int.natCast_zero] at h1 k1 l1
    rw [h1]; unfold F54j1; rw [k1]; unfold F54j2; rw [l1]
  · refine (okG_ref chs cs).2 ⟨⟨h3, by omega⟩, ⟨k3, by omega⟩, ?_, fun c hc => ?_⟩
    · exact gCh_ok chs 0 (fun j c hc => by have := h2 j c hc; omega) (by omega)
    · have := k2 c hc
      exact ⟨by unfold vCe; omega, gCh_fst chs 0 (fun j c hc => by have := h2 j c hc; omega) c.ch (by omega) (by omega)⟩
  · exact ⟨⟨l3, by omega⟩, gCl_ok cs.length l 0 [] (fun j c hc => by have := l2 j c hc; omega) (fun x hx => by cases hx) (by omega) (by omega)⟩
end Go.K
