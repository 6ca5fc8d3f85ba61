/- Closed forms of the calls that the laws of the mill make: valid mills that numbers describe, the mill with one more comer and without one, hours, the level. No condition. -/
import Derived.Test.YtofnbcfjdngakaaPY6
namespace Go.K
open Go.RowKit
set_option linter.unusedVariables false
set_option linter.unusedSimpArgs false
theorem okM_iff {h : Int} {l : List Cm} : okM h l ↔ (0 ≤ h ∧ h ≤ 24) ∧ l.length ≤ 12 ∧ (∀ c ∈ l, vCm c ∧ c.hrs < 2 ^ h.toNat) ∧ (l.map (·.fam)).Nodup := by
  constructor
  · rintro ⟨hh, hn, hf⟩
    refine ⟨hh, hn, fun c hc => ?_, ?_⟩
    · obtain ⟨k, hk⟩ := List.mem_iff_getElem?.1 hc
      exact ⟨(hf k c hk).1, (hf k c hk).2.1⟩
    · show List.Pairwise (· ≠ ·) _
      rw [List.pairwise_map, List.pairwise_iff_getElem]
      intro i j hi hj hij
      refine (hf j l[j] (List.getElem?_eq_getElem hj)).2.2 l[i] (List.mem_iff_getElem?.2 ⟨i, ?_⟩)
      rw [List.getElem?_take, if_pos hij, List.getElem?_eq_getElem hi]
  · rintro ⟨hh, hn, hf, hd⟩
    refine ⟨hh, hn, fun k c hk => ?_⟩
    have hm := hf c (List.mem_iff_getElem?.2 ⟨k, hk⟩)
    refine ⟨hm.1, hm.2, fun x hx => ?_⟩
    obtain ⟨i, hi⟩ := List.mem_iff_getElem?.1 hx
    rw [List.getElem?_take] at hi
    by_cases e : i < k
    · rw [if_pos e] at hi
      obtain ⟨h1, e1⟩ := List.getElem?_eq_some_iff.1 hi
      obtain ⟨h2, e2⟩ := List.getElem?_eq_some_iff.1 hk
      have hd' : List.Pairwise (· ≠ ·) (l.map (·.fam)) := hd
      rw [List.pairwise_map, List.pairwise_iff_getElem] at hd'
      have := hd' i k h1 h2 e
      rw [e1, e2] at this; exact this
    · rw [if_neg e] at hi; cases hi
theorem F23_ok {h : Int} {l : List Cm} (ok : okM h l) {N : Nat} (hN : 100 ≤ N) : F23 N h l = some 0 := by
  obtain ⟨hh, hn, hf⟩ := ok
  have loop : ∀ (m i : Nat), i ≤ l.length → l.length < m + i → F23l1 h l N m (i : Int) = some 0 := by
    intro m
    induction m with
    | zero => intro i h1 h2; omega
    | succ m ih =>
      intro i h1 h2
      show F23b1 h l N (F23l1 h l N m) (i : Int) = _
      unfold F23b1
      rcases drop_cases l i with ⟨hi, e⟩ | ⟨c, hi, hc, e⟩
      · rw [if_neg (by omega)]
      · rw [if_pos (by omega), gdO_pos (by omega), Int.toNat_natCast, hc, bindO_some, gdO_pos (by omega), List.drop_zero, Nat.sub_zero]
        obtain ⟨t, et, ht⟩ := F63_eq N h (l.take i) c hh (by rw [List.length_take]; omega) hN
        rw [et, bindO_some, ht.2 (hf i c hc), if_pos rfl, ckO_pos (by unfold InR; omega), succ_cast]
        exact ih (i + 1) hi (by omega)
  unfold F23
  rw [F70_eq, bindO_some, decide_eq_true hh, if_pos rfl, if_neg (by omega)]
  exact loop N 0 (by omega) (by omega)
theorem ix_at {h : Int} {l : List Cm} (ok : okM h l) {k : Nat} {c : Cm} (hc : l[k]? = some c) : ixOf c.fam l 0 = (k : Int) := by
  have := (ix_some c.fam l 0 k c hc rfl).2 (ok.2.2 k c hc).2.2
  rw [Nat.zero_add] at this; exact this
/-! the level -/
def FeasL (l : List Cm) (H : Nat) (k : Int) : Prop := ∃ Q, okH l Q ∧ Q.length = H ∧ ∀ (j : Nat) c, l[j]? = some c → k ≤ cnt Q j ∨ c.wants ≤ cnt Q j
def lev (l : List Cm) (H : Nat) (L : Int) : Prop := (0 ≤ L ∧ L ≤ 24) ∧ FeasL l H L ∧ (L < 24 → ¬ FeasL l H (L + 1))
def sh (k x : Int) : Int := if x = k then -1 else if k < x then x - 1 else x
/-! mills that numbers describe -/
def fams : List Int := [6, 4, 2, 9, 7, 5]
theorem F59_fam : ∀ i : Nat, i < 6 → F59 (7 * (i : Int) + 5) 9 = some ((fams[i]?).getD 0 - 1) := by decide
theorem F59_ok (n m : Int) (h : 0 < m) (hm : m ≤ 16777216) : ∃ z, F59 n m = some z ∧ 0 ≤ z ∧ z < m := by
  have h1 : -m < n.tmod m ∧ n.tmod m < m := ⟨by have := Int.lt_tmod_of_pos n h; omega, Int.tmod_lt_of_pos n h⟩
  unfold F59
  rw [gdO_pos h, ckO_pos (by unfold InR; omega)]
  exact ⟨_, rfl, Int.tmod_nonneg _ (by omega), Int.tmod_lt_of_pos _ h⟩
theorem F60_eq (p : Int) (q : List A2) {N : Nat} (hN : 100 ≤ N) : ∃ (H : Nat) (l : List Cm), F60 N p q = some ((H : Int), l) ∧ H ≤ 10 ∧ okM (H : Int) l ∧ l.length ≤ 6 ∧ ∀ c ∈ l, c.fam ≤ 9 := by
  obtain ⟨z, ez, z0, z1⟩ := F59_ok p 11 (by decide) (by decide)
  obtain ⟨H, rfl⟩ : ∃ H : Nat, z = H := ⟨z.toNat, by omega⟩
  unfold F60
  rw [ez, bindO_some]
  have hp := p2_ck (k := H) (by omega)
  have hpc : (2 : Int) ^ H = ((2 ^ H : Nat) : Int) := by rw [Int.natCast_pow]; rfl
  have loop : ∀ (m i : Nat) (o : List Cm), i ≤ 6 → 6 < m + i → i ≤ q.length → o.map (·.fam) = fams.take i → (∀ c ∈ o, vCm c ∧ c.hrs < 2 ^ H) → ∃ l, F60l1 q (H : Int) m o (i : Int) = some ((H : Int), l) ∧ (∃ n, n ≤ 6 ∧ l.map (·.fam) = fams.take n) ∧ ∀ c ∈ l, vCm c ∧ c.hrs < 2 ^ H := by
    intro m
    induction m with
    | zero => intro i o h1 h2; omega
    | succ m ih =>
      intro i o h1 h2 h3 h4 h5
      show ∃ l, F60b1 q (H : Int) (F60l1 q (H : Int) m) o (i : Int) = _ ∧ _
      unfold F60b1
      rcases drop_cases q i with ⟨hi, _⟩ | ⟨c, hi, hc, _⟩
      · rw [if_neg (by omega)]; exact ⟨o, rfl, ⟨i, h1, h4⟩, h5⟩
      · rw [if_pos (by omega)]
        by_cases h6 : i < 6
        · have hlen : o.length ≤ 6 := by have := congrArg List.length h4; rw [List.length_map, List.length_take] at this; omega
          have hfi : fams[i]? = some fams[i] := List.getElem?_eq_getElem h6
          have hfb : 1 ≤ fams[i] ∧ fams[i] ≤ 9 := by
            have : ∀ x ∈ fams, 1 ≤ x ∧ x ≤ 9 := by decide
            exact this _ (List.mem_iff_getElem?.2 ⟨i, hfi⟩)
          obtain ⟨a, ea, a0, a1⟩ := F59_ok c.a ((2 ^ H : Nat) : Int) (by omega) (by omega)
          obtain ⟨b, eb, b0, b1⟩ := F59_ok c.b 7 (by decide) (by decide)
          rw [if_pos (by omega), ckO_pos (by unfold InR; omega), ckO_pos (by unfold InR; omega), F59_fam i h6, bindO_some, hfi, Option.getD_some, ckO_pos (by unfold InR; omega), gdO_pos (by omega), Int.toNat_natCast, hc, bindO_some, gdO_pos (by omega), Int.toNat_natCast, p2_cast', ckO_pos (by unfold InR; omega), ea, bindO_some, eb, bindO_some, gdO_pos (by omega)]
          unfold F60j2
          rw [ckO_pos (by unfold InR; omega), succ_cast]
          refine ih (i + 1) _ (by omega) (by omega) hi ?_ fun d hd => ?_
          · rw [List.map_append, h4, List.take_add_one, hfi]
            simp; omega
          · rcases List.mem_append.1 hd with hd | hd
            · exact h5 d hd
            · have e := List.mem_singleton.1 hd
              subst e
              refine ⟨⟨⟨by show 1 ≤ 1 + (fams[i] - 1); omega, by show 1 + (fams[i] - 1) ≤ 99; omega⟩, ⟨a0, by show a ≤ 16777215; omega⟩, b0, by show b ≤ 24; omega⟩, ?_⟩
              show a < 2 ^ H
              rw [hpc]; exact a1
        · rw [if_neg (by omega)]; exact ⟨o, rfl, ⟨i, h1, h4⟩, h5⟩
  obtain ⟨l, e, ⟨n, hn, hm⟩, hv⟩ := loop N 0 [] (by omega) (by omega) (by omega) rfl (fun c hc => by cases hc)
  have hlen : l.length ≤ 6 := by
    have := congrArg List.length hm
    rw [List.length_map, List.length_take] at this; omega
  refine ⟨H, l, e, by omega, okM_iff.2 ⟨by omega, by omega, by rw [Int.toNat_natCast]; exact hv, ?_⟩, hlen, fun c hc => ?_⟩
  · rw [hm]
    exact List.Nodup.sublist (List.take_sublist n fams) (by decide)
  · have h9 : ∀ x ∈ fams, x ≤ 9 := by decide
    have hmem : c.fam ∈ l.map (·.fam) := List.mem_map.2 ⟨c, hc, rfl⟩
    rw [hm] at hmem
    exact h9 _ (List.mem_of_mem_take hmem)
end Go.K
