/- Sharings of the mill, mills that are shut at an hour, Comes and Idle: what they answer of every sharing that gives each comer its hours. No condition. -/
import Derived.Test.YtofnbcfjdngakaaPY7
namespace Go.K
open Go.RowKit
set_option linter.unusedVariables false
set_option linter.unusedSimpArgs false
def posS (l : List Cm) (s : List Int) (h : Nat) (x : Int) : Prop := (x = -1 ∧ s[h]? = some 0) ∨ ∃ c, 0 ≤ x ∧ l[x.toNat]? = some c ∧ bt c.hrs h = true ∧ s[h]? = some c.fam
/-- a sharing, by comers' indices, that gives each its hours -/
def shr (l : List Cm) (H : Nat) (hs s : List Int) (Q : List Int) : Prop := Q.length = H ∧ s.length = H ∧ (∀ h x, Q[h]? = some x → posS l s h x) ∧ ∀ j, j < l.length → hs[j]? = some (cnt Q j)
theorem F40_eq {H : Nat} {l : List Cm} (ok : okM (H : Int) l) {N : Nat} (hN : 100 ≤ N) {R hs : List Int} (e : F80 N (H : Int) l = some ((H : Int), R, hs)) (f : filld l H R hs) : ∃ s, F40 N (H : Int) l = some (s, 0) ∧ shr l H hs s R := by
  obtain ⟨f1, f2, f3, f4, f5⟩ := f
  have hH := ok.1
  unfold F40
  rw [F23_ok ok hN, bindO_some, if_pos rfl, e, bindO_some, gdO_pos (by omega), gdO_pos (by omega), Int.toNat_natCast]
  have loop : ∀ (m i : Nat) (s : List Int), i ≤ H → H < m + i → s.length = H → (∀ h x, R[h]? = some x → h < i → posS l s h x) → (∀ h, i ≤ h → h < H → s[h]? = some 0) → ∃ s', F40l1 l ((H : Int), R, hs) m s (i : Int) = some (s', 0) ∧ s'.length = H ∧ ∀ h x, R[h]? = some x → posS l s' h x := by
    intro m
    induction m with
    | zero => intro i s g1 g2; omega
    | succ m ih =>
      intro i s g1 g2 g3 g4 g5
      show ∃ s', F40b1 l ((H : Int), R, hs) (F40l1 l ((H : Int), R, hs) m) s (i : Int) = _ ∧ _
      unfold F40b1
      by_cases hi : i < H
      · have hx' : R[i]? = some R[i] := List.getElem?_eq_getElem (by omega)
        generalize R[i] = x at hx'
        have hx : (((H : Int), R, hs).2.1)[i]? = some x := hx'
        rw [if_pos (show (i : Int) < (R.length : Int) by omega), gdO_pos (by omega), Int.toNat_natCast, hx, bindO_some]
        unfold F40j2
        by_cases h1 : x = -1
        · rw [if_pos h1, ckO_pos (by unfold InR; omega), succ_cast]
          refine ih (i + 1) s (by omega) (by omega) g3 (fun h y hy hh => ?_) (fun h a b => g5 h (by omega) b)
          rcases Nat.eq_or_lt_of_le (Nat.le_of_lt_succ hh) with q | q
          · subst q; rw [hx'] at hy; injection hy with hy; subst hy
            exact .inl ⟨h1, g5 h (Nat.le_refl _) hi⟩
          · exact g4 h y hy q
        · rcases f1 i x hx' with q | ⟨a, d, hd, hb⟩
          · exact absurd q h1
          · rw [if_neg h1, gdO_pos a, hd, bindO_some, g5 i (Nat.le_refl _) hi, bindO_some, ckO_pos (by unfold InR; omega), succ_cast]
            refine ih (i + 1) _ (by omega) (by omega) (by rw [List.length_set]; exact g3) (fun h y hy hh => ?_) (fun h u v => ?_)
            · rcases Nat.eq_or_lt_of_le (Nat.le_of_lt_succ hh) with q | q
              · subst q; rw [hx'] at hy; injection hy with hy; subst hy
                exact .inr ⟨d, a, hd, hb, by rw [List.getElem?_set, if_pos rfl, if_pos (by omega)]⟩
              · have := g4 h y hy q
                unfold posS at this ⊢
                rw [List.getElem?_set_ne (by omega)]; exact this
            · rw [List.getElem?_set_ne (by omega)]; exact g5 h (by omega) v
      · rw [if_neg (show ¬ (i : Int) < (R.length : Int) by omega)]
        refine ⟨s, rfl, g3, fun h x hx => ?_⟩
        have := (List.getElem?_eq_some_iff.1 hx).1
        exact g4 h x hx (by omega)
  obtain ⟨s', a1, a2, a3⟩ := loop N 0 (List.replicate H 0) (by omega) (by omega) List.length_replicate (fun h x _ hh => by omega) (fun h _ hh => by rw [List.getElem?_replicate, if_pos hh])
  exact ⟨s', a1, f2, a2, a3, f4⟩
theorem F85_eq (N : Nat) (a b : List Int) (ha : a.length ≤ 1000) (hN : 2000 ≤ N) : ∃ z, F85 N a b = some z ∧ (z = true → a = b) := by
  unfold F85
  by_cases hl : (a.length : Int) = (b.length : Int)
  · rw [if_pos hl]
    have loop : ∀ (m i : Nat), i ≤ a.length → a.length < m + i → ∃ z, F85l1 a b m (i : Int) = some z ∧ (z = true → ∀ j, i ≤ j → a[j]? = b[j]?) := by
      intro m
      induction m with
      | zero => intro i h1 h2; omega
      | succ m ih =>
        intro i h1 h2
        show ∃ z, F85b1 a b (F85l1 a b m) (i : Int) = _ ∧ _
        unfold F85b1
        by_cases hi : i < a.length
        · have hx : a[i]? = some a[i] := List.getElem?_eq_getElem hi
          have hy : b[i]? = some b[i] := List.getElem?_eq_getElem (by omega)
          rw [if_pos (by omega), gdO_pos (by omega), Int.toNat_natCast, hx, bindO_some, hy, bindO_some]
          by_cases e : a[i] = b[i]
          · rw [if_pos e, ckO_pos (by unfold InR; omega), succ_cast]
            obtain ⟨z, a1, a2⟩ := ih (i + 1) hi (by omega)
            refine ⟨z, a1, fun hz j hj => ?_⟩
            rcases Nat.eq_or_lt_of_le hj with q | q
            · subst q; rw [hx, hy, e]
            · exact a2 hz j q
          · rw [if_neg e]; exact ⟨false, rfl, fun q => by cases q⟩
        · rw [if_neg (by omega)]
          refine ⟨true, rfl, fun _ j hj => ?_⟩
          rw [List.getElem?_eq_none (by omega), List.getElem?_eq_none (by omega)]
    obtain ⟨z, a1, a2⟩ := loop N 0 (by omega) (by omega)
    exact ⟨z, a1, fun hz => List.ext_getElem? fun j => a2 hz j (Nat.zero_le _)⟩
  · rw [if_neg hl]; exact ⟨false, rfl, fun q => by cases q⟩
theorem cnt_snoc (Q : List Int) (x : Int) (j : Nat) : cnt (Q ++ [x]) j = cnt Q j + if x = (j : Int) then 1 else 0 := by
  unfold cnt
  rw [List.count_append, List.count_singleton]
  by_cases e : x = (j : Int)
  · rw [if_pos e, if_pos (beq_iff_eq.2 e)]; omega
  · rw [if_neg e, if_neg (by simpa using e)]; omega
theorem F42_eq {H : Nat} {l : List Cm} (ok : okM (H : Int) l) {N : Nat} (hN : 2000 ≤ N) {R hs : List Int} (e : F80 N (H : Int) l = some ((H : Int), R, hs)) (s : List Int) : ∃ z, F42 N (H : Int) l s = some z ∧ (z = 0 → ∃ Q, shr l H hs s Q) ∧ (z = 0 ∨ z = 53) := by
  have hH := ok.1
  have hn := ok.2.1
  unfold F42
  rw [F23_ok ok (by omega), bindO_some, if_pos rfl, e, bindO_some]
  by_cases hl : (s.length : Int) = (H : Int)
  · rw [if_pos hl, gdO_pos (by omega), gdO_pos (by omega), Int.toNat_natCast]
    have loop6 : ∀ (rec3 : List Int → Int → Option Int) (u : List Int) (v : Nat) (x : Int), v < H → ∀ (m i : Nat), i ≤ l.length → l.length < m + i →
        (∃ (j : Nat) (c : Cm), l[j]? = some c ∧ c.fam = x ∧ bt c.hrs v = true ∧ F42l6 l N rec3 ((H : Int), R, hs) u (v : Int) x m (i : Int) = bindO u[j]? fun y => ckO (y + 1) (F42j4 rec3 (v : Int) (u.set j (y + 1)))) ∨ F42l6 l N rec3 ((H : Int), R, hs) u (v : Int) x m (i : Int) = some 53 := by
      intro rec3 u v x hv m
      induction m with
      | zero => intro i h1 h2; omega
      | succ m ih =>
        intro i h1 h2
        have step : F42l6 l N rec3 ((H : Int), R, hs) u (v : Int) x (m + 1) (i : Int) = F42b6 l N rec3 ((H : Int), R, hs) u (v : Int) x (F42l6 l N rec3 ((H : Int), R, hs) u (v : Int) x m) (i : Int) := rfl
        rw [step]
        unfold F42b6
        rcases drop_cases l i with ⟨hi, _⟩ | ⟨c, hi, hc, _⟩
        · rw [if_neg (by omega)]
          exact .inr rfl
        · have hcb := okC_24 (H := H) (by omega) (fun d hd => by have := ((okM_iff.1 ok).2.2.1 d hd); unfold vCm at this; rw [Int.toNat_natCast] at this; exact ⟨this.1.2.1.1, this.2⟩) hc
          have nxt : (∃ (j : Nat) (c : Cm), l[j]? = some c ∧ c.fam = x ∧ bt c.hrs v = true ∧ F42j7 (F42l6 l N rec3 ((H : Int), R, hs) u (v : Int) x m) (i : Int) = bindO u[j]? fun y => ckO (y + 1) (F42j4 rec3 (v : Int) (u.set j (y + 1)))) ∨ F42j7 (F42l6 l N rec3 ((H : Int), R, hs) u (v : Int) x m) (i : Int) = some 53 := by
            unfold F42j7
            rw [ckO_pos (by unfold InR; omega), succ_cast]
            exact ih (i + 1) hi (by omega)
          rw [if_pos (by omega), gdO_pos (by omega), Int.toNat_natCast, hc, bindO_some]
          by_cases hf : c.fam = x
          · rw [if_pos hf, F92_eq (by omega) (by omega), bindO_some, Int.toNat_natCast]
            by_cases hb : bt c.hrs v = true
            · rw [if_pos hb]; exact .inl ⟨i, c, hc, hf, hb, rfl⟩
            · rw [if_neg hb]; exact nxt
          · rw [if_neg hf]; exact nxt
    have loop3 : ∀ (m v : Nat) (u Q : List Int), v ≤ H → H < m + v → Q.length = v → u.length = l.length → (∀ j, j < l.length → u[j]? = some (cnt Q j)) → (∀ h x, Q[h]? = some x → posS l s h x) →
        ∃ z, F42l3 l s N ((H : Int), R, hs) m u (v : Int) = some z ∧ (z = 0 → ∃ Q, shr l H hs s Q) ∧ (z = 0 ∨ z = 53) := by
      intro m
      induction m with
      | zero => intro v u Q h1 h2; omega
      | succ m ih =>
        intro v u Q h1 h2 h3 h4 h5 h6
        show ∃ z, F42b3 l s N ((H : Int), R, hs) (F42l3 l s N ((H : Int), R, hs) m) u (v : Int) = _ ∧ _
        unfold F42b3
        by_cases hv : v < H
        · have hx : s[v]? = some s[v] := List.getElem?_eq_getElem (by omega)
          generalize s[v] = x at hx
          have okQ : ∀ y, posS l s v y → ∀ h z, (Q ++ [y])[h]? = some z → posS l s h z := fun y hy h z hz => by
            rcases Nat.lt_or_ge h v with q | q
            · rw [List.getElem?_append_left (by omega)] at hz; exact h6 h z hz
            · rw [List.getElem?_append_right (by omega)] at hz
              have : h = v := by
                have := (List.getElem?_eq_some_iff.1 hz).1
                simp at this; omega
              subst this
              rw [h3, Nat.sub_self] at hz
              have hz : y = z := by simpa using hz
              subst hz; exact hy
          rw [if_pos (by omega), gdO_pos (by omega), Int.toNat_natCast, hx, bindO_some]
          by_cases h0 : x = 0
          · rw [if_pos h0]
            unfold F42j4
            rw [ckO_pos (by unfold InR; omega), succ_cast]
            refine ih (v + 1) u (Q ++ [-1]) (by omega) (by omega) (by simp [h3]) h4 (fun j hj => ?_) (okQ _ (.inl ⟨rfl, by rw [hx, h0]⟩))
            rw [cnt_snoc, if_neg (by omega), Int.add_zero]; exact h5 j hj
          · rw [if_neg h0]
            rcases loop6 (F42l3 l s N ((H : Int), R, hs) m) u v x hv N 0 (by omega) (by omega) with ⟨j, c, hc, hf, hb, e6⟩ | e6
            · rw [show ((0 : Nat) : Int) = 0 from rfl] at e6
              have hj : j < l.length := (List.getElem?_eq_some_iff.1 hc).1
              have hcn : cnt Q j ≤ 24 ∧ 0 ≤ cnt Q j := by
                have := List.count_le_length (a := (j : Int)) (l := Q)
                unfold cnt; omega
              rw [e6, h5 j hj, bindO_some, ckO_pos (by unfold InR; omega)]
              unfold F42j4
              rw [ckO_pos (by unfold InR; omega), succ_cast]
              refine ih (v + 1) _ (Q ++ [(j : Int)]) (by omega) (by omega) (by simp [h3]) (by rw [List.length_set]; exact h4) (fun i hi => ?_) (okQ _ (.inr ⟨c, by omega, by rw [Int.toNat_natCast]; exact hc, hb, by rw [hx, hf]⟩))
              rw [cnt_snoc, List.getElem?_set]
              by_cases q : j = i
              · subst q; rw [if_pos rfl, if_pos (by omega), if_pos rfl]
              · rw [if_neg q, if_neg (by omega), Int.add_zero]; exact h5 i hi
            · rw [show ((0 : Nat) : Int) = 0 from rfl] at e6
              rw [e6]; exact ⟨53, rfl, fun q => by omega, .inr rfl⟩
        · have e : v = H := by omega
          subst e
          rw [if_neg (by omega)]
          unfold F42j2 F42j1
          obtain ⟨z, ez, hz⟩ := F85_eq N u hs (by omega) hN
          rw [if_pos rfl, ez, bindO_some]
          by_cases hzt : z = true
          · rw [if_pos hzt]
            exact ⟨0, rfl, fun _ => ⟨Q, h3, by omega, h6, fun j hj => by rw [← hz hzt]; exact h5 j hj⟩, .inl rfl⟩
          · rw [if_neg hzt]; exact ⟨53, rfl, fun q => by omega, .inr rfl⟩
    exact loop3 N 0 _ [] (by omega) (by omega) rfl List.length_replicate (fun j hj => by rw [List.getElem?_replicate, if_pos hj]; rfl) (fun h x hx => by simp at hx)
  · rw [if_neg hl]
    exact ⟨53, rfl, fun q => by omega, .inr rfl⟩
/-! shut at an hour -/
def clr (v : Nat) (c : Cm) : Cm := ⟨c.fam, andNotI c.hrs ((2 ^ v : Nat) : Int), c.wants⟩
def clrs (v : Nat) (fs : List Int) (c : Cm) : Cm := if c.fam ∈ fs then clr v c else c
end Go.K
