/- MillServed and MillFair. No condition. -/
import Derived.Test.YtofnbcfjdngakaaPYc
namespace Go.K
open Go.RowKit
set_option linter.unusedVariables false
set_option linter.unusedSimpArgs false
theorem and_bt2 {x : Int} (k : Nat) : (andI x ((2 ^ k : Nat) : Int) = 0) ↔ bt x k = false := by
  unfold andI bt
  rw [Int.toNat_natCast]
  generalize x.toNat = n
  constructor
  · intro q
    have q2 : n &&& 2 ^ k = 0 := by omega
    have := congrArg (fun z => Nat.testBit z k) q2
    simp only [Nat.testBit_and, Nat.testBit_two_pow_self, Bool.and_true, Nat.zero_testBit] at this
    exact this
  · intro q
    have : n &&& 2 ^ k = 0 := Nat.eq_of_testBit_eq fun i => by
      rw [Nat.testBit_and, Nat.testBit_two_pow, Nat.zero_testBit]
      by_cases e : k = i
      · subst e; rw [q]; rfl
      · rw [decide_eq_false e, Bool.and_false]
    rw [this]; rfl
/-! fair -/
theorem F42_ok {H : Nat} {l : List Cm} (ok : okM (H : Int) l) {N : Nat} (hN : 2000 ≤ N) {R hs : List Int} (e : F80 N (H : Int) l = some ((H : Int), R, hs)) (hhl : hs.length = l.length) {s Q : List Int} (hsh : shr l H hs s Q) : F42 N (H : Int) l s = some 0 := by
  have hH := ok.1
  have hn := ok.2.1
  have hC := okM_okC ok
  obtain ⟨q1, q2, q3, q4⟩ := hsh
  unfold F42
  rw [F23_ok ok (by omega), bindO_some, if_pos rfl, e, bindO_some, if_pos (show (s.length : Int) = (H : Int) by omega), gdO_pos (by omega), gdO_pos (by omega), Int.toNat_natCast]
  have loop6 : ∀ (rec3 : List Int → Int → Option Int) (u : List Int) (v : Nat) (j : Nat) (c : Cm), v < H → l[j]? = some c → bt c.hrs v = true → ∀ (m i : Nat), i ≤ j → l.length < m + i →
      F42l6 l N rec3 ((H : Int), R, hs) u (v : Int) c.fam m (i : Int) = bindO u[j]? fun y => ckO (y + 1) (F42j4 rec3 (v : Int) (u.set j (y + 1))) := by
    intro rec3 u v j c hv hc hb m
    induction m with
    | zero => intro i h1 h2; have := (List.getElem?_eq_some_iff.1 hc).1; omega
    | succ m ih =>
      intro i h1 h2
      have step : F42l6 l N rec3 ((H : Int), R, hs) u (v : Int) c.fam (m + 1) (i : Int) = F42b6 l N rec3 ((H : Int), R, hs) u (v : Int) c.fam (F42l6 l N rec3 ((H : Int), R, hs) u (v : Int) c.fam m) (i : Int) := rfl
      rw [step]
      unfold F42b6
      have hj := (List.getElem?_eq_some_iff.1 hc).1
      rcases drop_cases l i with ⟨hi, _⟩ | ⟨d, hi, hd, _⟩
      · omega
      · have hdb := okC_24 (by omega) hC hd
        rw [if_pos (by omega), gdO_pos (by omega), Int.toNat_natCast, hd, bindO_some]
        by_cases hf : d.fam = c.fam
        · have := fam_one ok hc hd hf
          subst this
          rw [hc] at hd; injection hd with hd; subst hd
          rw [if_pos rfl, F92_eq (by omega) (by omega), bindO_some, Int.toNat_natCast, if_pos hb]
        · rw [if_neg hf]
          unfold F42j7
          rw [ckO_pos (by unfold InR; omega), succ_cast]
          refine ih (i + 1) ?_ (by omega)
          rcases Nat.eq_or_lt_of_le h1 with r | r
          · subst r; rw [hc] at hd; injection hd with hd; subst hd; exact absurd rfl hf
          · exact r
  have loop3 : ∀ (m v : Nat) (u : List Int), v ≤ H → H < m + v → u.length = l.length → (∀ j, j < l.length → u[j]? = some (cnt (Q.take v) j)) → F42l3 l s N ((H : Int), R, hs) m u (v : Int) = some 0 := by
    intro m
    induction m with
    | zero => intro v u h1 h2; omega
    | succ m ih =>
      intro v u h1 h2 h4 h5
      show F42b3 l s N ((H : Int), R, hs) (F42l3 l s N ((H : Int), R, hs) m) u (v : Int) = _
      unfold F42b3
      by_cases hv : v < H
      · obtain ⟨y, hy⟩ : ∃ y, Q[v]? = some y := ⟨_, List.getElem?_eq_getElem (show v < Q.length by omega)⟩
        have htk : ∀ j : Nat, cnt (Q.take (v + 1)) j = cnt (Q.take v) j + if y = (j : Int) then 1 else 0 := fun j => by
          rw [List.take_add_one, hy]
          exact cnt_snoc _ y j
        rcases q3 v y hy with ⟨r1, r2⟩ | ⟨c, r1, r2, r3, r4⟩
        · rw [if_pos (by omega), gdO_pos (by omega), Int.toNat_natCast, r2, bindO_some, if_pos rfl]
          unfold F42j4
          rw [ckO_pos (by unfold InR; omega), succ_cast]
          refine ih (v + 1) u (by omega) (by omega) h4 fun j hj => ?_
          rw [htk, if_neg (by omega), Int.add_zero]; exact h5 j hj
        · obtain ⟨k, rfl⟩ : ∃ k : Nat, y = k := ⟨y.toNat, by omega⟩
          rw [Int.toNat_natCast] at r2
          have hk := (List.getElem?_eq_some_iff.1 r2).1
          have hf := ((okM_iff.1 ok).2.2.1 c (List.mem_iff_getElem?.2 ⟨k, r2⟩)).1.1
          have b6 := loop6 (F42l3 l s N ((H : Int), R, hs) m) u v k c hv r2 r3 N 0 (by omega) (by omega)
          rw [show ((0 : Nat) : Int) = 0 from rfl] at b6
          have hcn : cnt (Q.take v) k ≤ 24 ∧ 0 ≤ cnt (Q.take v) k := by
            have := List.count_le_length (a := (k : Int)) (l := Q.take v)
            rw [List.length_take] at this
            unfold cnt; omega
          rw [if_pos (by omega), gdO_pos (by omega), Int.toNat_natCast, r4, bindO_some, if_neg (by omega), b6, h5 k hk, bindO_some, ckO_pos (by unfold InR; omega)]
          unfold F42j4
          rw [ckO_pos (by unfold InR; omega), succ_cast]
          refine ih (v + 1) _ (by omega) (by omega) (by rw [List.length_set]; exact h4) fun j hj => ?_
          rw [htk, List.getElem?_set]
          by_cases r : k = j
          · subst r; rw [if_pos rfl, if_pos (by omega), if_pos rfl]
          · rw [if_neg r, if_neg (by omega), Int.add_zero]; exact h5 j hj
      · have e : v = H := by omega
        subst e
        rw [if_neg (by omega)]
        unfold F42j2 F42j1
        have hu : u = hs := List.ext_getElem? fun j => by
          by_cases hj : j < l.length
          · rw [h5 j hj, q4 j hj, List.take_of_length_le (by omega)]
          · rw [List.getElem?_eq_none (by omega), List.getElem?_eq_none (by omega)]
        subst hu
        have eqs : ∀ (a : List Int), a.length ≤ 1000 → F85 N a a = some true := fun a ha => by
          unfold F85
          rw [if_pos rfl]
          have loop : ∀ (m i : Nat), i ≤ a.length → a.length < m + i → F85l1 a a m (i : Int) = some true := by
            intro m
            induction m with
            | zero => intro i h1 h2; omega
            | succ m ih =>
              intro i h1 h2
              show F85b1 a a (F85l1 a a m) (i : Int) = _
              unfold F85b1
              by_cases hi : i < a.length
              · obtain ⟨x, hx⟩ : ∃ x, a[i]? = some x := ⟨_, List.getElem?_eq_getElem hi⟩
                rw [if_pos (by omega), gdO_pos (by omega), Int.toNat_natCast, hx, bindO_some, bindO_some, if_pos rfl, ckO_pos (by unfold InR; omega), succ_cast]
                exact ih (i + 1) hi (by omega)
              · rw [if_neg (by omega)]
          exact loop N 0 (by omega) (by omega)
        have e85 : F85 N u ((v : Int), R, u).2.2 = some true := eqs u (by omega)
        rw [if_pos rfl]
        first
          | (rw [e85, bindO_some, if_pos rfl])
          | (have e85' := eqs u (by omega); rw [e85', bindO_some, if_pos rfl])
  exact loop3 N 0 _ (by omega) (by omega) List.length_replicate (fun j hj => by rw [List.getElem?_replicate, if_pos hj, List.take_zero]; rfl)
theorem count_pt {f j : Int} : ∀ (a b : List Int), a.length = b.length → (∀ (h : Nat) x y, a[h]? = some x → b[h]? = some y → (x = f ↔ y = j)) → a.count f = b.count j
  | [], [], _, _ => rfl
  | [], _ :: _, h, _ => by simp at h
  | _ :: _, [], h, _ => by simp at h
  | x :: a, y :: b, h, hp => by
    have ih := count_pt a b (by simpa using h) fun i u v hu hv => hp (i + 1) u v (by simpa using hu) (by simpa using hv)
    have h0 := hp 0 x y rfl rfl
    rw [List.count_cons, List.count_cons, ih]
    by_cases e : x = f
    · rw [if_pos (beq_iff_eq.2 e), if_pos (beq_iff_eq.2 (h0.1 e))]
    · rw [if_neg (by simpa using e), if_neg (by simpa using fun q => e (h0.2 q))]
theorem shr_count {H : Nat} {l : List Cm} (ok : okM (H : Int) l) {s Q : List Int} (hl : Q.length = H) (hs : s.length = H) (hp : ∀ h x, Q[h]? = some x → posS l s h x) {i : Nat} {c : Cm} (hc : l[i]? = some c) : ((s.count c.fam : Nat) : Int) = cnt Q i := by
  have hf := ((okM_iff.1 ok).2.2.1 c (List.mem_iff_getElem?.2 ⟨i, hc⟩)).1.1
  have := count_pt (f := c.fam) (j := (i : Int)) s Q (by omega) fun h x y hx hy => by
    rcases hp h y hy with ⟨r1, r2⟩ | ⟨d, r1, r2, r3, r4⟩
    · rw [hx] at r2; injection r2 with r2
      constructor
      · intro z; omega
      · intro z; omega
    · rw [hx] at r4; injection r4 with r4
      constructor
      · intro z
        have := fam_one ok hc r2 (r4.symm.trans z); omega
      · intro z
        have e : y.toNat = i := by omega
        rw [e, hc] at r2; injection r2 with r2; subst r2; exact r4
  unfold cnt; omega
def nx (L : Int) (c : Cm) : Int := if c.wants < (L + 1) then c.wants else (L + 1)
end Go.K
