/- Closed forms of the calls that the laws of the mill make: valid mills that numbers describe, the mill with one more comer and without one, hours, the level. No condition. -/
import Derived.Test.YtofnbcfjdngakaaPY6
namespace Go.K
open Go.RowKit
set_option linter.unusedVariables false
set_option linter.unusedSimpArgs false
theorem okM_iff {h : Int} {l : List Cm} : okM h l ↔ (0 ≤ h ∧ h ≤ 24) ∧ l.length ≤ 12 ∧ (∀ c ∈ l, vCm c ∧ c.hrs < 2 ^ h.toNat) ∧ (l.map (·.fam)).Nodup := by
  constructor
  · rintro ⟨hh, hn, hf⟩
    refine ⟨hh, hn, fun c hc => ?_, ?_⟩
    · obtain ⟨k, hk⟩ := List.mem_iff_getElem?.1 hc
      exact ⟨(hf k c hk).1, (hf k c hk).2.1⟩
    · show List.Pairwise (· ≠ ·) _
      rw [List.pairwise_map, List.pairwise_iff_getElem]
      intro i j hi hj hij
      refine (hf j l[j] (List.getElem?_eq_getElem hj)).2.2 l[i] (List.mem_iff_getElem?.2 ⟨i, ?_⟩)
      rw [List.getElem?_take, if_pos hij, List.getElem?_eq_getElem hi]
  · rintro ⟨hh, hn, hf, hd⟩
    refine ⟨hh, hn, fun k c hk => ?_⟩
    have hm := hf c (List.mem_iff_getElem?.2 ⟨k, hk⟩)
    refine ⟨hm.1, hm.2, fun x hx => ?_⟩
    obtain ⟨i, hi⟩ := List.mem_iff_getElem?.1 hx
    rw [List.getElem?_take] at hi
    by_cases e : i < k
    · rw [if_pos e] at hi
      obtain ⟨h1, e1⟩ := List.getElem?_eq_some_iff.1 hi
      obtain ⟨h2, e2⟩ := List.getElem?_eq_some_iff.1 hk
      have hd' : List.Pairwise (· ≠ ·) (l.map (·.fam)) := hd
      rw [List.pairwise_map, List.pairwise_iff_getElem] at hd'
      have := hd' i k h1 h2 e
      rw [e1, e2] at this; exact this
    · rw [if_neg e] at hi; cases hi
theorem F23_ok {h : Int} {l : List Cm} (ok : okM h l) {N : Nat} (hN : 100 ≤ N) : F23 N h l = some 0 := by
  obtain ⟨hh, hn, hf⟩ := ok
  have loop : ∀ (m i : Nat), i ≤ l.length → l.length < m + i → F23l1 h l N m (i : Int) = some 0 := by
    intro m
    induction m with
    | zero => intro i h1 h2; omega
    | succ m ih =>
      intro i h1 h2
      show F23b1 h l N (F23l1 h l N m) (i : Int) = _
      unfold F23b1
      rcases drop_cases l i with ⟨hi, e⟩ | ⟨c, hi, hc, e⟩
      · rw [if_neg (by omega)]
      · rw [if_pos (by omega), gdO_pos (by omega), Int.toNat_natCast, hc, bindO_some, gdO_pos (by omega), List.drop_zero, Nat.sub_zero]
        obtain ⟨t, et, ht⟩ := F63_eq N h (l.take i) c hh (by rw [List.length_take]; omega) hN
        rw [et, bindO_some, ht.2 (hf i c hc), if_pos rfl, ckO_pos (by unfold InR; omega), succ_cast]
        exact ih (i + 1) hi (by omega)
  unfold F23
  rw [F70_eq, bindO_some, decide_eq_true hh, if_pos rfl, if_neg (by omega)]
  exact loop N 0 (by omega) (by omega)
theorem ix_at {h : Int} {l : List Cm} (ok : okM h l) {k : Nat} {c : Cm} (hc : l[k]? = some c) : ixOf c.fam l 0 = (k : Int) := by
  have := (ix_some c.fam l 0 k c hc rfl).2 (ok.2.2 k c hc).2.2
  rw [Nat.zero_add] at this; exact this
theorem F66_ok {h : Int} {l : List Cm} (ok : okM h l) {N : Nat} (hN : 100 ≤ N) {k : Nat} {c : Cm} (hc : l[k]? = some c) : F66 N h l c.fam = some ((k : Int), 0) := by
  unfold F66
  rw [F23_ok ok hN, bindO_some, if_pos rfl, F98_eq N h l c.fam ok.2.1 hN, bindO_some, ix_at ok hc, if_neg (by omega)]
theorem F67_ok {h : Int} {l : List Cm} (hn : l.length ≤ 12) {k : Nat} (hk : k < l.length) : F67 h l (k : Int) = some (h, l.eraseIdx k) := by
  have hlen : (l.take k ++ l.drop (k + 1)).length ≤ l.length := by rw [List.length_append, List.length_take, List.length_drop]; omega
  unfold F67 F64 F99
  rw [gdO_pos (by omega), bindO_some, ckO_pos (by unfold InR; omega)]
  simp only [show ((k : Int) + 1).toNat = k + 1 by omega, Int.toNat_natCast]
  rw [gdO_pos (by omega), gdO_pos (by omega), gdO_pos (by omega), gdO_pos (by omega), if_neg (by omega), gdO_pos (by omega), gdO_pos (by omega), gdO_pos hlen, gdO_pos (by omega), gdO_pos hlen, bindO_some, ← List.eraseIdx_eq_take_drop_succ]
theorem okM_erase {h : Int} {l : List Cm} (ok : okM h l) (k : Nat) : okM h (l.eraseIdx k) := by
  obtain ⟨a, b, c, d⟩ := okM_iff.1 ok
  refine okM_iff.2 ⟨a, ?_, fun x hx => c x (List.mem_of_mem_eraseIdx hx), ?_⟩
  · have := List.Sublist.length_le (List.eraseIdx_sublist l k); omega
  · exact List.Nodup.sublist ((List.eraseIdx_sublist l k).map _) d
/-! the level -/
def FeasL (l : List Cm) (H : Nat) (k : Int) : Prop := ∃ Q, okH l Q ∧ Q.length = H ∧ ∀ (j : Nat) c, l[j]? = some c → k ≤ cnt Q j ∨ c.wants ≤ cnt Q j
def lev (l : List Cm) (H : Nat) (L : Int) : Prop := (0 ≤ L ∧ L ≤ 24) ∧ FeasL l H L ∧ (L < 24 → ¬ FeasL l H (L + 1))
def sh (k x : Int) : Int := if x = k then -1 else if k < x then x - 1 else x
/-! mills that numbers describe -/
def fams : List Int := [6, 4, 2, 9, 7, 5]
end Go.K
