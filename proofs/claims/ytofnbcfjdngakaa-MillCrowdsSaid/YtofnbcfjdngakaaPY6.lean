/- The rota is filled by turns: who has fewer hours than wanted was refused; demands are served exactly if they can be. No condition. -/
import Derived.Test.YtofnbcfjdngakaaPY5
namespace Go.K
open Go.RowKit
set_option linter.unusedVariables false
set_option linter.unusedSimpArgs false
theorem F115n_eq {l : List Cm} (hC : okC l 0) {h : Int} {N : Nat} (hN : 60 ≤ N) {t : Nat} {c : Cm} (hc : l[t]? = some c) : F115n N (t : Int) 0 h l = some (false, 0) := by
  obtain ⟨M, rfl⟩ : ∃ M, N = M + 1 := ⟨N - 1, by omega⟩
  show F115nb M (F115n M) (t : Int) 0 h l = _
  unfold F115nb
  rw [gdO_pos (by omega), Int.toNat_natCast, hc, bindO_some]
  have h0 := hC c (List.mem_iff_getElem?.2 ⟨_, hc⟩)
  rw [Int.pow_zero] at h0
  have hz : c.hrs = 0 := by omega
  have loop : ∀ (m v : Nat), v ≤ 24 → 24 < m + v → F115nl1 0 h c m (v : Int) = some (false, 0) := by
    intro m
    induction m with
    | zero => intro v h1 h2; omega
    | succ m ih =>
      intro v h1 h2
      show F115nb1 0 h c (F115nl1 0 h c m) (v : Int) = _
      unfold F115nb1
      by_cases hv : v < 24
      · rw [if_pos (by omega), F92_eq (by omega) (by omega), bindO_some, hz, bt0, if_neg (by decide)]
        unfold F115nj2
        rw [ckO_pos (by unfold InR; omega), succ_cast]
        exact ih (v + 1) (by omega) (by omega)
      · rw [if_neg (by omega)]
  exact loop M 0 (by omega) (by omega)
theorem more_eq {l : List Cm} {H : Nat} (hH : H ≤ 24) (hC : okC l H) {h : Int} {N : Nat} (hN : 60 ≤ N) {R : List Int} (hR : okH l R) (hl : R.length = H) {t : Nat} {c : Cm} (hc : l[t]? = some c) :
    ∃ (b : Bool) (A : Int) (R' : List Int), (0 < R.length → F115 N (t : Int) 0 h l R = some (b, A, R')) ∧ (¬ 0 < R.length → F115n N (t : Int) 0 h l = some (b, A) ∧ R' = R) ∧ (0 ≤ A ∧ A < 16777216) ∧
      ((b = true ∧ okH l R' ∧ R'.length = H ∧ ∀ j, cnt R' j = cnt R j + if j = t then 1 else 0) ∨ (b = false ∧ R' = R ∧ clo l 0 R A ∧ inS l A t = true)) := by
  by_cases h0 : 0 < R.length
  · obtain ⟨⟨b, A, R'⟩, e, ⟨q1, q2, q3, q4⟩, q5⟩ := F115_eq hH hC (hrs := h) 24 N (by omega) (t : Int) 0 R c (mu_24 0) (by omega) hR hl (by omega) (by rw [Int.toNat_natCast]; exact hc)
    refine ⟨b, A, R', fun _ => e, fun q => absurd h0 q, q1, ?_⟩
    cases b with
    | true =>
      obtain ⟨b1, b2, b3, b4⟩ := q4 rfl
      refine .inl ⟨rfl, b2, b1.trans hl, fun j => ?_⟩
      have := b4 (j : Int) (by omega)
      unfold cnt
      by_cases e : j = t
      · rw [if_pos e]; rw [if_pos (by omega)] at this; have t2 : List.count (j : Int) R' = _ := this; omega
      · rw [if_neg e]; rw [if_neg (by omega)] at this; have t2 : List.count (j : Int) R' = _ := this; omega
    | false =>
      obtain ⟨a1, a2⟩ := q3 rfl
      exact .inr ⟨rfl, a1, a2, inS_iff.2 ⟨c, hc, (subB_iff (okC_24 hH hC hc)).2 fun h hb => q5 rfl h (Nat.zero_le _) hb⟩⟩
  · have hz : H = 0 := by omega
    subst hz
    refine ⟨false, 0, R, fun q => absurd q h0, fun _ => ⟨F115n_eq hC hN hc, rfl⟩, by omega, .inr ⟨rfl, rfl, fun h ha _ => ?_, inS_iff.2 ⟨c, hc, (subB_iff (okC_24 hH hC hc)).2 fun h hb => ?_⟩⟩⟩
    · rw [bt0] at ha; cases ha
    · have := bt_lt (hC c (List.mem_iff_getElem?.2 ⟨_, hc⟩)) hb; omega
theorem F104_eq (H : Nat) (hH : H ≤ 24) (N : Nat) (hN : 60 ≤ N) (l : List Cm) : F104 N (H : Int) l = some ((H : Int), List.replicate H (-1)) := by
  have loop : ∀ (m i : Nat), i ≤ H → H < m + i → F104l1 (H : Int) m (List.replicate i (-1)) (i : Int) = some ((H : Int), List.replicate H (-1)) := by
    intro m
    induction m with
    | zero => intro i h1 h2; omega
    | succ m ih =>
      intro i h1 h2
      show F104b1 (H : Int) (F104l1 (H : Int) m) (List.replicate i (-1)) (i : Int) = _
      unfold F104b1
      by_cases hi : i < H
      · rw [if_pos (by omega), gdO_pos (by rw [List.length_replicate]; omega), ckO_pos (by unfold InR; omega), succ_cast, show List.replicate i (-1 : Int) ++ [-1] = List.replicate (i + 1) (-1) from List.replicate_succ'.symm]
        exact ih (i + 1) (by omega) (by omega)
      · have e : i = H := by omega
        subst e
        rw [if_neg (by omega)]
  exact loop N 0 (by omega) (by omega)
theorem okH_none (l : List Cm) (H : Nat) : okH l (List.replicate H (-1)) := by
  intro h x hx
  rw [List.getElem?_replicate] at hx
  by_cases e : h < H
  · rw [if_pos e] at hx; injection hx with hx; exact .inl hx.symm
  · rw [if_neg e] at hx; cases hx
theorem cnt_none (H j : Nat) : cnt (List.replicate H (-1)) j = 0 := by
  unfold cnt
  rw [List.count_replicate, if_neg (by simp)]; rfl
def inv (l : List Cm) (H v i : Nat) (R hs : List Int) : Prop := okH l R ∧ R.length = H ∧ hs.length = l.length ∧ (∀ j, j < l.length → hs[j]? = some (cnt R j)) ∧
  ∀ (j : Nat) c, l[j]? = some c → cnt R j ≤ c.wants ∧ cnt R j ≤ (v : Int) + (if j < i then 1 else 0) ∧ (cnt R j = (v : Int) + (if j < i then 1 else 0) ∨ cnt R j = c.wants ∨ frz l H R j)
def filld (l : List Cm) (H : Nat) (R hs : List Int) : Prop := okH l R ∧ R.length = H ∧ hs.length = l.length ∧ (∀ j, j < l.length → hs[j]? = some (cnt R j)) ∧
  ∀ (j : Nat) c, l[j]? = some c → cnt R j ≤ c.wants ∧ (cnt R j = c.wants ∨ frz l H R j)
theorem okM_C {h : Int} {l : List Cm} (ok : okM h l) : ∃ H : Nat, h = (H : Int) ∧ H ≤ 24 ∧ okC l H ∧ l.length ≤ 12 ∧ ∀ c ∈ l, 0 ≤ c.wants ∧ c.wants ≤ 24 := by
  obtain ⟨hh, hn, hf⟩ := ok
  refine ⟨h.toNat, by omega, by omega, fun c hc => ?_, hn, fun c hc => ?_⟩
  · obtain ⟨k, hk⟩ := List.mem_iff_getElem?.1 hc
    exact ⟨(hf k c hk).1.2.1.1, (hf k c hk).2.1⟩
  · obtain ⟨k, hk⟩ := List.mem_iff_getElem?.1 hc
    exact (hf k c hk).1.2.2
/-! serving demands -/
def Feas (l : List Cm) (H : Nat) (d : List Int) : Prop := ∃ Q, okH l Q ∧ Q.length = H ∧ ∀ (j : Nat) x, d[j]? = some x → x ≤ cnt Q j
theorem F87l6_eq {l : List Cm} {H : Nat} (hH : H ≤ 24) (hC : okC l H) (hn : l.length ≤ 12) {d : List Int} (hd : d.length = l.length) {A : Int} (hA : 0 ≤ A ∧ A < 16777216) : ∀ (m i : Nat) (o : List Int), i ≤ l.length → l.length < m + i → o.length ≤ i → F87l6 l d A m o (i : Int) = some false := by
  intro m
  induction m with
  | zero => intro i o h1 h2; omega
  | succ m ih =>
    intro i o h1 h2 ho
    show F87b6 l d A (F87l6 l d A m) o (i : Int) = _
    unfold F87b6
    rcases drop_cases l i with ⟨hi, e⟩ | ⟨c, hi, hc, e⟩
    · rw [if_neg (by omega)]
      unfold F87j5
      rw [gdO_pos (by omega)]
    · have hb := okC_24 hH hC hc
      have go : ∀ o' : List Int, o'.length ≤ i + 1 → F87j7 (F87l6 l d A m) (i : Int) o' = some false := fun o' ho' => by
        unfold F87j7
        rw [ckO_pos (by unfold InR; omega), succ_cast]
        exact ih (i + 1) o' hi (by omega) ho'
      have hdi : d[i]? = some d[i] := List.getElem?_eq_getElem (by omega)
      rw [if_pos (by omega), gdO_pos (by omega), Int.toNat_natCast, hc, bindO_some, hdi, bindO_some]
      unfold F87j8
      by_cases h0 : 0 < d[i]
      · rw [if_pos h0, gdO_pos (by omega), gdO_pos (by omega), ckO_pos (by unfold InR; omega), ckO_pos (by unfold InR; omega)]
        by_cases hz : andNotI c.hrs A = 0
        · rw [if_pos hz, gdO_pos (by omega)]; exact go _ (by simp; omega)
        · rw [if_neg hz]; exact go _ (by omega)
      · rw [if_neg h0]; exact go _ (by omega)
def sinv (l : List Cm) (H : Nat) (d : List Int) (i : Nat) (k : Int) (R : List Int) : Prop := okH l R ∧ R.length = H ∧ ∀ (j : Nat) x, d[j]? = some x → cnt R j = if j < i then x else if j = i then k else 0
theorem no_feas {l : List Cm} {H : Nat} (hH : H ≤ 24) (hC : okC l H) {d : List Int} (hd : d.length = l.length) (hd0 : ∀ x ∈ d, 0 ≤ x) {i : Nat} {k x : Int} {R : List Int} (hI : sinv l H d i k R) (hx : d[i]? = some x) (hk : k < x) {A : Int} (hcl : clo l 0 R A) (hS : inS l A i = true) : ¬ Feas l H d := by
  rintro ⟨Q, hQ, hlQ, hge⟩
  obtain ⟨h1, h2, h3⟩ := hI
  have a := sat hH hC hQ h2 hlQ hcl
  have key : ∀ j, j < l.length → cnt R j ≤ cnt Q j := fun j hj => by
    have hdj : d[j]? = some d[j] := List.getElem?_eq_getElem (by omega)
    have b := h3 j _ hdj
    have c := hge j _ hdj
    have c0 := hd0 _ (List.mem_iff_getElem?.2 ⟨j, hdj⟩)
    by_cases e1 : j < i
    · rw [if_pos e1] at b; omega
    · rw [if_neg e1] at b
      by_cases e2 : j = i
      · rw [if_pos e2] at b; subst e2; rw [hdj] at hx; injection hx with hx; omega
      · rw [if_neg e2] at b; omega
  have hit : cnt R i < cnt Q i := by
    have b := h3 i x hx
    rw [if_neg (by omega), if_pos rfl] at b
    have := hge i x hx
    omega
  have := sumS_lt (S := inS l A) l.length (fun j hj _ => key j hj) i (inS_lt hS) hS hit
  omega
theorem F87l3_eq {l : List Cm} {H : Nat} (hH : H ≤ 24) (hC : okC l H) (hn : l.length ≤ 12) {N : Nat} (hN : 60 ≤ N) {d : List Int} (hd : d.length = l.length) (hd0 : ∀ x ∈ d, 0 ≤ x) {rec1 : List Int → Int → Option Bool} {y : Int × List Int} {i : Nat} {x : Nat} (hx : d[i]? = some (x : Int)) (hx24 : x ≤ 24) : ∀ (m k : Nat) (R : List Int), k ≤ x → x < m + k → sinv l H d i (k : Int) R →
    (∃ R', sinv l H d i (x : Int) R' ∧ F87l3 l d N rec1 y (i : Int) (x : Int) m R (k : Int) = F87j2 rec1 (i : Int) R') ∨ (F87l3 l d N rec1 y (i : Int) (x : Int) m R (k : Int) = some false ∧ ¬ Feas l H d) := by
  intro m
  induction m with
  | zero => intro k R h1 h2; omega
  | succ m ih =>
    intro k R h1 h2 hI
    show (∃ R', _ ∧ F87b3 l d N rec1 y (i : Int) (x : Int) (F87l3 l d N rec1 y (i : Int) (x : Int) m) R (k : Int) = _) ∨ (F87b3 l d N rec1 y (i : Int) (x : Int) (F87l3 l d N rec1 y (i : Int) (x : Int) m) R (k : Int) = _ ∧ _)
    unfold F87b3
    by_cases hk : k < x
    · rw [if_pos (by omega)]
      have hi : i < l.length := by have := (List.getElem?_eq_some_iff.1 hx).1; omega
      have hc : l[i]? = some l[i] := List.getElem?_eq_getElem hi
      obtain ⟨b, A, R', e1, e2, hA, alt⟩ := more_eq hH hC (h := y.1) hN hI.1 hI.2.1 hc
      have go : (∃ R'', sinv l H d i (x : Int) R'' ∧ F87j4 l d N (F87l3 l d N rec1 y (i : Int) (x : Int) m) (k : Int) A b R' = F87j2 rec1 (i : Int) R'') ∨ (F87j4 l d N (F87l3 l d N rec1 y (i : Int) (x : Int) m) (k : Int) A b R' = some false ∧ ¬ Feas l H d) := by
        unfold F87j4
        rcases alt with ⟨rfl, b1, b2, b3⟩ | ⟨rfl, rfl, b1, b2⟩
        · rw [if_pos rfl, ckO_pos (by unfold InR; omega), succ_cast]
          refine ih (k + 1) R' (by omega) (by omega) ⟨b1, b2, fun j z hz => ?_⟩
          have a := hI.2.2 j z hz
          rw [b3 j, a]
          by_cases q : j = i
          · rw [if_neg (by omega), if_pos q, if_pos q, if_neg (by omega), if_pos q]; omega
          · rw [if_neg q]
            by_cases q2 : j < i
            · rw [if_pos q2, if_pos q2]; omega
            · rw [if_neg q2, if_neg q, if_neg q2, if_neg q]; omega
        · rw [if_neg (by decide)]
          exact .inr ⟨F87l6_eq hH hC hn hd hA N 0 [] (by omega) (by omega) (by simp), no_feas hH hC hd hd0 hI hx (by omega) b1 b2⟩
      by_cases hp : 0 < R.length
      · rw [if_pos hp, e1 hp, bindO_some]; exact go
      · obtain ⟨e3, e4⟩ := e2 hp
        rw [if_neg hp, e3, bindO_some]; rw [e4] at go; exact go
    · have e : k = x := by omega
      subst e
      rw [if_neg (by omega)]
      exact .inl ⟨R, hI, rfl⟩
theorem F87l1_eq {l : List Cm} {H : Nat} (hH : H ≤ 24) (hC : okC l H) (hn : l.length ≤ 12) {N : Nat} (hN : 60 ≤ N) {d : List Int} (hd : d.length = l.length) (hd0 : ∀ x ∈ d, 0 ≤ x ∧ x ≤ 24) {y : Int × List Int} : ∀ (m i : Nat) (R : List Int), i ≤ d.length → d.length < m + i → sinv l H d i 0 R →
    ∃ b, F87l1 l d N y m R (i : Int) = some b ∧ (b = true ↔ Feas l H d) := by
  intro m
  induction m with
  | zero => intro i R h1 h2; omega
  | succ m ih =>
    intro i R h1 h2 hI
    show ∃ b, F87b1 l d N y (F87l1 l d N y m) R (i : Int) = _ ∧ _
    unfold F87b1
    rcases drop_cases d i with ⟨hi, e⟩ | ⟨x, hi, hx, e⟩
    · rw [if_neg (by omega)]
      refine ⟨true, rfl, ⟨fun _ => ⟨R, hI.1, hI.2.1, fun j z hz => ?_⟩, fun _ => rfl⟩⟩
      have hj := (List.getElem?_eq_some_iff.1 hz).1
      have a := hI.2.2 j z hz
      rw [if_pos (by omega)] at a; omega
    · have hx0 := hd0 x (List.mem_iff_getElem?.2 ⟨_, hx⟩)
      obtain ⟨n, rfl⟩ : ∃ n : Nat, x = n := ⟨x.toNat, by omega⟩
      rw [if_pos (by omega), gdO_pos (by omega), Int.toNat_natCast, hx, bindO_some]
      rcases F87l3_eq hH hC hn hN hd (fun z hz => (hd0 z hz).1) (rec1 := F87l1 l d N y m) (y := y) hx (by omega) N 0 R (by omega) (by omega) hI with ⟨R', hI', e⟩ | ⟨e, hno⟩
      · rw [show ((0 : Nat) : Int) = 0 from rfl] at e
        rw [e]
        unfold F87j2
        rw [ckO_pos (by unfold InR; omega), succ_cast]
        refine ih (i + 1) R' hi (by omega) ⟨hI'.1, hI'.2.1, fun j z hz => ?_⟩
        have a := hI'.2.2 j z hz
        rw [a]
        by_cases q : j < i
        · rw [if_pos q, if_pos (by omega)]
        · rw [if_neg q]
          by_cases q2 : j = i
          · subst q2
            rw [hx] at hz; injection hz with hz
            rw [if_pos rfl, if_pos (by omega), hz]
          · rw [if_neg q2, if_neg (by omega)]
            split <;> rfl
      · rw [show ((0 : Nat) : Int) = 0 from rfl] at e
        rw [e]
        exact ⟨false, rfl, ⟨fun q => (by cases q), fun q => absurd q hno⟩⟩
theorem F87_eq {H : Nat} {l : List Cm} (hH : H ≤ 24) (hC : okC l H) (hn : l.length ≤ 12) {d : List Int} (hd : d.length = l.length) (hd0 : ∀ x ∈ d, 0 ≤ x ∧ x ≤ 24) {N : Nat} (hN : 60 ≤ N) : ∃ b, F87 N (H : Int) l d = some b ∧ (b = true ↔ Feas l H d) := by
  unfold F87
  rw [F104_eq H hH N hN, bindO_some]
  refine F87l1_eq hH hC hn hN hd hd0 N 0 _ (by omega) (by omega) ⟨okH_none l H, List.length_replicate, fun j z hz => ?_⟩
  rw [cnt_none]
  rw [if_neg (by omega)]
  split <;> rfl
end Go.K
