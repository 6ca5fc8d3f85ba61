/- Closed forms of the calls that the laws of the mill make: valid mills that numbers describe, the mill with one more comer and without one, hours, the level. No condition. -/
import Derived.Test.YtofnbcfjdngakaaPY6
namespace Go.K
open Go.RowKit
set_option linter.unusedVariables false
set_option linter.unusedSimpArgs false
theorem okM_iff {h : Int} {l : List Cm} : okM h l ↔ (0 ≤ h ∧ h ≤ 24) ∧ l.length ≤ 12 ∧ (∀ c ∈ l, vCm c ∧ c.hrs < 2 ^ h.toNat) ∧ (l.map (·.fam)).Nodup := by
  constructor
  · rintro ⟨hh, hn, hf⟩
    refine ⟨hh, hn, fun c hc => ?_, ?_⟩
    · obtain ⟨k, hk⟩ := List.mem_iff_getElem?.1 hc
      exact ⟨(hf k c hk).1, (hf k c hk).2.1⟩
    · show List.Pairwise (· ≠ ·) _
      rw [List.pairwise_map, List.pairwise_iff_getElem]
      intro i j hi hj hij
      refine (hf j l[j] (List.getElem?_eq_getElem hj)).2.2 l[i] (List.mem_iff_getElem?.2 ⟨i, ?_⟩)
      rw [List.getElem?_take, if_pos hij, List.getElem?_eq_getElem hi]
  · rintro ⟨hh, hn, hf, hd⟩
    refine ⟨hh, hn, fun k c hk => ?_⟩
    have hm := hf c (List.mem_iff_getElem?.2 ⟨k, hk⟩)
    refine ⟨hm.1, hm.2, fun x hx => ?_⟩
    obtain ⟨i, hi⟩ := List.mem_iff_getElem?.1 hx
    rw [List.getElem?_take] at hi
    by_cases e : i < k
    · rw [if_pos e] at hi
      obtain ⟨h1, e1⟩ := List.getElem?_eq_some_iff.1 hi
      obtain ⟨h2, e2⟩ := List.getElem?_eq_some_iff.1 hk
      have hd' : List.Pairwise (· ≠ ·) (l.map (·.fam)) := hd
      rw [List.pairwise_map, List.pairwise_iff_getElem] at hd'
      have := hd' i k h1 h2 e
      rw [e1, e2] at this; exact this
    · rw [if_neg e] at hi; cases hi
theorem F23_ok {h : Int} {l : List Cm} (ok : okM h l) {N : Nat} (hN : 100 ≤ N) : F23 N h l = some 0 := by
  obtain ⟨hh, hn, hf⟩ := ok
  have loop : ∀ (m i : Nat), i ≤ l.length → l.length < m + i → F23l1 h l N m (i : Int) = some 0 := by
    intro m
    induction m with
    | zero => intro i h1 h2; omega
    | succ m ih =>
      intro i h1 h2
      show F23b1 h l N (F23l1 h l N m) (i : Int) = _
      unfold F23b1
      rcases drop_cases l i with ⟨hi, e⟩ | ⟨c, hi, hc, e⟩
      · rw [if_neg (by omega)]
      · rw [if_pos (by omega), gdO_pos (by omega), Int.toNat_natCast, hc, bindO_some, gdO_pos (by omega), List.drop_zero, Nat.sub_zero]
        obtain ⟨t, et, ht⟩ := F63_eq N h (l.take i) c hh (by rw [List.length_take]; omega) hN
        rw [et, bindO_some, ht.2 (hf i c hc), if_pos rfl, ckO_pos (by unfold InR; omega), succ_cast]
        exact ih (i + 1) hi (by omega)
  unfold F23
  rw [F70_eq, bindO_some, decide_eq_true hh, if_pos rfl, if_neg (by omega)]
  exact loop N 0 (by omega) (by omega)
theorem ix_at {h : Int} {l : List Cm} (ok : okM h l) {k : Nat} {c : Cm} (hc : l[k]? = some c) : ixOf c.fam l 0 = (k : Int) := by
  have := (ix_some c.fam l 0 k c hc rfl).2 (ok.2.2 k c hc).2.2
  rw [Nat.zero_add] at this; exact this
/-! the level -/
def FeasL (l : List Cm) (H : Nat) (k : Int) : Prop := ∃ Q, okH l Q ∧ Q.length = H ∧ ∀ (j : Nat) c, l[j]? = some c → k ≤ cnt Q j ∨ c.wants ≤ cnt Q j
def lev (l : List Cm) (H : Nat) (L : Int) : Prop := (0 ≤ L ∧ L ≤ 24) ∧ FeasL l H L ∧ (L < 24 → ¬ FeasL l H (L + 1))
def sh (k x : Int) : Int := if x = k then -1 else if k < x then x - 1 else x
/-! mills that numbers describe -/
def fams : List Int := [6, 4, 2, 9, 7, 5]
end Go.K
