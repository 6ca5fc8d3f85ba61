/- Closed forms of the calls that the laws of the mill make: valid mills that numbers describe, the mill with one more comer and without one, hours, the level. No condition. -/
import Derived.Test.YtofnbcfjdngakaaPY6
namespace Go.K
open Go.RowKit
set_option linter.unusedVariables false
set_option linter.unusedSimpArgs false
theorem okM_iff {h : Int} {l : List Cm} : okM h l ↔ (0 ≤ h ∧ h ≤ 24) ∧ l.length ≤ 12 ∧ (∀ c ∈ l, vCm c ∧ c.hrs < 2 ^ h.toNat) ∧ (l.map (·.fam)).Nodup := by
  constructor
  · rintro ⟨hh, hn, hf⟩
    refine ⟨hh, hn, fun c hc => ?_, ?_⟩
    · obtain ⟨k, hk⟩ := List.mem_iff_getElem?.1 hc
      exact ⟨(hf k c hk).1, (hf k c hk).2.1⟩
    · show List.Pairwise (· ≠ ·) _
      rw [List.pairwise_map, List.pairwise_iff_getElem]
      intro i j hi hj hij
      refine (hf j l[j] (List.getElem?_eq_getElem hj)).2.2 l[i] (List.mem_iff_getElem?.2 ⟨i, ?_⟩)
      rw [List.getElem?_take, if_pos hij, List.getElem?_eq_getElem hi]
  · rintro ⟨hh, hn, hf, hd⟩
    refine ⟨hh, hn, fun k c hk => ?_⟩
    have hm := hf c (List.mem_iff_getElem?.2 ⟨k, hk⟩)
    refine ⟨hm.1, hm.2, fun x hx => ?_⟩
    obtain ⟨i, hi⟩ := List.mem_iff_getElem?.1 hx
    rw [List.getElem?_take] at hi
    by_cases e : i < k
    · rw [if_pos e] at hi
      obtain ⟨h1, e1⟩ := List.getElem?_eq_some_iff.1 hi
      obtain ⟨h2, e2⟩ := List.getElem?_eq_some_iff.1 hk
      have hd' : List.Pairwise (· ≠ ·) (l.map (·.fam)) := hd
      rw [List.pairwise_map, List.pairwise_iff_getElem] at hd'
      have := hd' i k h1 h2 e
      rw [e1, e2] at this; exact this
    · rw [if_neg e] at hi; cases hi
theorem F23_ok {h : Int} {l : List Cm} (ok : okM h l) {N : Nat} (hN : 100 ≤ N) : F23 N h l = some 0 := by
  obtain ⟨hh, hn, hf⟩ := ok
  have loop : ∀ (m i : Nat), i ≤ l.length → l.length < m + i → F23l1 h l N m (i : Int) = some 0 := by
    intro m
    induction m with
    | zero => intro i h1 h2; omega
    | succ m ih =>
      intro i h1 h2
      show F23b1 h l N (F23l1 h l N m) (i : Int) = _
      unfold F23b1
      rcases drop_cases l i with ⟨hi, e⟩ | ⟨c, hi, hc, e⟩
      · rw [if_neg (by omega)]
      · rw [if_pos (by omega), gdO_pos (by omega), Int.toNat_natCast, hc, bindO_some, gdO_pos (by omega), List.drop_zero, Nat.sub_zero]
        obtain ⟨t, et, ht⟩ := F63_eq N h (l.take i) c hh (by rw [List.length_take]; omega) hN
        rw [et, bindO_some, ht.2 (hf i c hc), if_pos rfl, ckO_pos (by unfold InR; omega), succ_cast]
        exact ih (i + 1) hi (by omega)
  unfold F23
  rw [F70_eq, bindO_some, decide_eq_true hh, if_pos rfl, if_neg (by omega)]
  exact loop N 0 (by omega) (by omega)
theorem ix_at {h : Int} {l : List Cm} (ok : okM h l) {k : Nat} {c : Cm} (hc : l[k]? = some c) : ixOf c.fam l 0 = (k : Int) := by
  have := (ix_some c.fam l 0 k c hc rfl).2 (ok.2.2 k c hc).2.2
  rw [Nat.zero_add] at this; exact this
theorem F80_hs {h : Int} {l : List Cm} (ok : okM h l) {N : Nat} (hN : 100 ≤ N) {R hs : List Int} (e : F80 N h l = some (h, R, hs)) : F38 N h l = some (hs, 0) := by
  unfold F38
  rw [F23_ok ok hN, bindO_some, if_pos rfl, e, bindO_some]
/-! the level -/
def FeasL (l : List Cm) (H : Nat) (k : Int) : Prop := ∃ Q, okH l Q ∧ Q.length = H ∧ ∀ (j : Nat) c, l[j]? = some c → k ≤ cnt Q j ∨ c.wants ≤ cnt Q j
def lev (l : List Cm) (H : Nat) (L : Int) : Prop := (0 ≤ L ∧ L ≤ 24) ∧ FeasL l H L ∧ (L < 24 → ¬ FeasL l H (L + 1))
theorem lev_le {l l' : List Cm} {H H' : Nat} {L L' : Int} (h : lev l H L) (h' : lev l' H' L') (hf : FeasL l' H' L) : L ≤ L' := by
  rcases Int.lt_or_le L' L with q | q
  · exfalso
    refine h'.2.2 (by have := h.1.2; omega) ?_
    obtain ⟨Q, a, b, c⟩ := hf
    exact ⟨Q, a, b, fun j d hd => (c j d hd).imp (fun e => by omega) id⟩
  · exact q
theorem F36_eq {h : Int} {l : List Cm} (ok : okM h l) {N : Nat} (hN : 100 ≤ N) : ∃ L, F36 N h l = some (L, 0) ∧ lev l h.toNat L := by
  obtain ⟨R, hs, e, h1, h2, h3, h4, h5⟩ := F80_eq ok (N := N) (by omega)
  have hn := ok.2.1
  unfold F36
  rw [F23_ok ok hN, bindO_some, if_pos rfl, e, bindO_some]
  have loop : ∀ (m i : Nat) (L : Int), i ≤ l.length → l.length < m + i → ∃ z, F36l1 l (h, R, hs) m L (i : Int) = some (z, 0) ∧ z ≤ L ∧ (∀ (j : Nat) c, i ≤ j → l[j]? = some c → cnt R j < c.wants → z ≤ cnt R j) ∧
      (z = L ∨ ∃ (j : Nat) (c : Cm), l[j]? = some c ∧ cnt R j < c.wants ∧ cnt R j = z) := by
    intro m
    induction m with
    | zero => intro i L h1 h2; omega
    | succ m ih =>
      intro i L g1 g2
      show ∃ z, F36b1 l (h, R, hs) (F36l1 l (h, R, hs) m) L (i : Int) = some (z, 0) ∧ _
      unfold F36b1
      rcases drop_cases l i with ⟨hi, _⟩ | ⟨c, hi, hc, _⟩
      · rw [if_neg (by omega)]
        refine ⟨L, rfl, Int.le_refl _, fun j c hj hc => ?_, .inl rfl⟩
        have := (List.getElem?_eq_some_iff.1 hc).1; omega
      · rw [if_pos (by omega), gdO_pos (by omega), Int.toNat_natCast, hc, bindO_some, h4 i hi, bindO_some]
        by_cases hw : cnt R i < c.wants
        · rw [if_pos hw]
          unfold F36j2
          rw [ckO_pos (by unfold InR; omega), succ_cast]
          obtain ⟨z, a1, a2, a3, a4⟩ := ih (i + 1) (if cnt R i < L then cnt R i else L) hi (by omega)
          have hm : z ≤ cnt R i ∧ z ≤ L := by split at a2 <;> omega
          refine ⟨z, a1, hm.2, fun j d hj hd hw' => ?_, ?_⟩
          · rcases Nat.eq_or_lt_of_le hj with q | q
            · subst q; exact hm.1
            · exact a3 j d q hd hw'
          · rcases a4 with q | q
            · by_cases q2 : cnt R i < L
              · rw [if_pos q2] at q; exact .inr ⟨i, c, hc, hw, q.symm⟩
              · rw [if_neg q2] at q; exact .inl q
            · exact .inr q
        · rw [if_neg hw]
          unfold F36j2
          rw [ckO_pos (by unfold InR; omega), succ_cast]
          obtain ⟨z, a1, a2, a3, a4⟩ := ih (i + 1) L hi (by omega)
          refine ⟨z, a1, a2, fun j d hj hd hw' => ?_, a4⟩
          rcases Nat.eq_or_lt_of_le hj with q | q
          · subst q; rw [hc] at hd; injection hd with hd; subst hd; exact absurd hw' hw
          · exact a3 j d q hd hw'
  obtain ⟨z, a1, a2, a3, a4⟩ := loop N 0 24 (by omega) (by omega)
  have hz : 0 ≤ z := by
    rcases a4 with q | ⟨j, c, _, _, q⟩
    · omega
    · have := cnt_nn R j; omega
  refine ⟨z, a1, ⟨hz, a2⟩, ⟨R, h1, h2, fun j c hc => ?_⟩, fun hlt => ?_⟩
  · by_cases q : cnt R j < c.wants
    · exact .inl (a3 j c (Nat.zero_le _) hc q)
    · exact .inr (by omega)
  · rcases a4 with q | ⟨j, c, hc, hw, q⟩
    · omega
    · rintro ⟨Q, hQ, hlQ, hge⟩
      obtain ⟨b1, b2⟩ := h5 j c hc
      rcases b2 with b2 | ⟨A, c1, c2, c3⟩
      · omega
      · have s1 := c2 Q hQ hlQ
        have s2 := sumS_lt (S := inS l A) (f := cnt R) (g := cnt Q) l.length (fun i hi hS => by
          obtain ⟨d, hd, _⟩ := inS_iff.1 hS
          have := (c3 i hi hS).1
          have := (h5 i d hd).1
          rcases hge i d hd with r | r <;> omega) j (inS_lt c1) c1 (by rcases hge j c hc with r | r <;> omega)
        omega
def sh (k x : Int) : Int := if x = k then -1 else if k < x then x - 1 else x
/-! mills that numbers describe -/
def fams : List Int := [6, 4, 2, 9, 7, 5]
end Go.K
