/- Sharings of the mill, mills that are shut at an hour, Comes and Idle: what they answer of every sharing that gives each comer its hours. No condition. -/
import Derived.Test.YtofnbcfjdngakaaPY7
namespace Go.K
open Go.RowKit
set_option linter.unusedVariables false
set_option linter.unusedSimpArgs false
def posS (l : List Cm) (s : List Int) (h : Nat) (x : Int) : Prop := (x = -1 ∧ s[h]? = some 0) ∨ ∃ c, 0 ≤ x ∧ l[x.toNat]? = some c ∧ bt c.hrs h = true ∧ s[h]? = some c.fam
/-- a sharing, by comers' indices, that gives each its hours -/
def shr (l : List Cm) (H : Nat) (hs s : List Int) (Q : List Int) : Prop := Q.length = H ∧ s.length = H ∧ (∀ h x, Q[h]? = some x → posS l s h x) ∧ ∀ j, j < l.length → hs[j]? = some (cnt Q j)
theorem F40_eq {H : Nat} {l : List Cm} (ok : okM (H : Int) l) {N : Nat} (hN : 100 ≤ N) {R hs : List Int} (e : F80 N (H : Int) l = some ((H : Int), R, hs)) (f : filld l H R hs) : ∃ s, F40 N (H : Int) l = some (s, 0) ∧ shr l H hs s R := by
  obtain ⟨f1, f2, f3, f4, f5⟩ := f
  have hH := ok.1
  unfold F40
  rw [F23_ok ok hN, bindO_some, if_pos rfl, e, bindO_some, gdO_pos (by omega), gdO_pos (by omega), Int.toNat_natCast]
  have loop : ∀ (m i : Nat) (s : List Int), i ≤ H → H < m + i → s.length = H → (∀ h x, R[h]? = some x → h < i → posS l s h x) → (∀ h, i ≤ h → h < H → s[h]? = some 0) → ∃ s', F40l1 l ((H : Int), R, hs) m s (i : Int) = some (s', 0) ∧ s'.length = H ∧ ∀ h x, R[h]? = some x → posS l s' h x := by
    intro m
    induction m with
    | zero => intro i s g1 g2; omega
    | succ m ih =>
      intro i s g1 g2 g3 g4 g5
      show ∃ s', F40b1 l ((H : Int), R, hs) (F40l1 l ((H : Int), R, hs) m) s (i : Int) = _ ∧ _
      unfold F40b1
      by_cases hi : i < H
      · have hx' : R[i]? = some R[i] := List.getElem?_eq_getElem (by omega)
        generalize R[i] = x at hx'
        have hx : (((H : Int), R, hs).2.1)[i]? = some x := hx'
        rw [if_pos (show (i : Int) < (R.length : Int) by omega), gdO_pos (by omega), Int.toNat_natCast, hx, bindO_some]
        unfold F40j2
        by_cases h1 : x = -1
        · rw [if_pos h1, ckO_pos (by unfold InR; omega), succ_cast]
          refine ih (i + 1) s (by omega) (by omega) g3 (fun h y hy hh => ?_) (fun h a b => g5 h (by omega) b)
          rcases Nat.eq_or_lt_of_le (Nat.le_of_lt_succ hh) with q | q
          · subst q; rw [hx'] at hy; injection hy with hy; subst hy
            exact .inl ⟨h1, g5 h (Nat.le_refl _) hi⟩
          · exact g4 h y hy q
        · rcases f1 i x hx' with q | ⟨a, d, hd, hb⟩
          · exact absurd q h1
          · rw [if_neg h1, gdO_pos a, hd, bindO_some, g5 i (Nat.le_refl _) hi, bindO_some, ckO_pos (by unfold InR; omega), succ_cast]
            refine ih (i + 1) _ (by omega) (by omega) (by rw [List.length_set]; exact g3) (fun h y hy hh => ?_) (fun h u v => ?_)
            · rcases Nat.eq_or_lt_of_le (Nat.le_of_lt_succ hh) with q | q
              · subst q; rw [hx'] at hy; injection hy with hy; subst hy
                exact .inr ⟨d, a, hd, hb, by rw [List.getElem?_set, if_pos rfl, if_pos (by omega)]⟩
              · have := g4 h y hy q
                unfold posS at this ⊢
                rw [List.getElem?_set_ne (by omega)]; exact this
            · rw [List.getElem?_set_ne (by omega)]; exact g5 h (by omega) v
      · rw [if_neg (show ¬ (i : Int) < (R.length : Int) by omega)]
        refine ⟨s, rfl, g3, fun h x hx => ?_⟩
        have := (List.getElem?_eq_some_iff.1 hx).1
        exact g4 h x hx (by omega)
  obtain ⟨s', a1, a2, a3⟩ := loop N 0 (List.replicate H 0) (by omega) (by omega) List.length_replicate (fun h x _ hh => by omega) (fun h _ hh => by rw [List.getElem?_replicate, if_pos hh])
  exact ⟨s', a1, f2, a2, a3, f4⟩
theorem cnt_snoc (Q : List Int) (x : Int) (j : Nat) : cnt (Q ++ [x]) j = cnt Q j + if x = (j : Int) then 1 else 0 := by
  unfold cnt
  rw [List.count_append, List.count_singleton]
  by_cases e : x = (j : Int)
  · rw [if_pos e, if_pos (beq_iff_eq.2 e)]; omega
  · rw [if_neg e, if_neg (by simpa using e)]; omega
/-! shut at an hour -/
def clr (v : Nat) (c : Cm) : Cm := ⟨c.fam, andNotI c.hrs ((2 ^ v : Nat) : Int), c.wants⟩
def clrs (v : Nat) (fs : List Int) (c : Cm) : Cm := if c.fam ∈ fs then clr v c else c
end Go.K
