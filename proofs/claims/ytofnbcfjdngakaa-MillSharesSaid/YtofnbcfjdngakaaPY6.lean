/- The rota is filled by turns: who has fewer hours than wanted was refused; demands are served exactly if they can be. No condition. -/
import Derived.Test.YtofnbcfjdngakaaPY5
namespace Go.K
open Go.RowKit
set_option linter.unusedVariables false
set_option linter.unusedSimpArgs false
theorem F115n_eq {l : List Cm} (hC : okC l 0) {h : Int} {N : Nat} (hN : 60 ≤ N) {t : Nat} {c : Cm} (hc : l[t]? = some c) : F115n N (t : Int) 0 h l = some (false, 0) := by
  obtain ⟨M, rfl⟩ : ∃ M, N = M + 1 := ⟨N - 1, by omega⟩
  show F115nb M (F115n M) (t : Int) 0 h l = _
  unfold F115nb
  rw [gdO_pos (by omega), Int.toNat_natCast, hc, bindO_some]
  have h0 := hC c (List.mem_iff_getElem?.2 ⟨_, hc⟩)
  rw [Int.pow_zero] at h0
  have hz : c.hrs = 0 := by omega
  have loop : ∀ (m v : Nat), v ≤ 24 → 24 < m + v → F115nl1 0 h c m (v : Int) = some (false, 0) := by
    intro m
    induction m with
    | zero => intro v h1 h2; omega
    | succ m ih =>
      intro v h1 h2
      show F115nb1 0 h c (F115nl1 0 h c m) (v : Int) = _
      unfold F115nb1
      by_cases hv : v < 24
      · rw [if_pos (by omega), F92_eq (by omega) (by omega), bindO_some, hz, bt0, if_neg (by decide)]
        unfold F115nj2
        rw [ckO_pos (by unfold InR; omega), succ_cast]
        exact ih (v + 1) (by omega) (by omega)
      · rw [if_neg (by omega)]
  exact loop M 0 (by omega) (by omega)
theorem cnt_nn (R : List Int) (j : Nat) : 0 ≤ cnt R j := by unfold cnt; omega
theorem more_eq {l : List Cm} {H : Nat} (hH : H ≤ 24) (hC : okC l H) {h : Int} {N : Nat} (hN : 60 ≤ N) {R : List Int} (hR : okH l R) (hl : R.length = H) {t : Nat} {c : Cm} (hc : l[t]? = some c) :
    ∃ (b : Bool) (A : Int) (R' : List Int), (0 < R.length → F115 N (t : Int) 0 h l R = some (b, A, R')) ∧ (¬ 0 < R.length → F115n N (t : Int) 0 h l = some (b, A) ∧ R' = R) ∧ (0 ≤ A ∧ A < 16777216) ∧
      ((b = true ∧ okH l R' ∧ R'.length = H ∧ ∀ j, cnt R' j = cnt R j + if j = t then 1 else 0) ∨ (b = false ∧ R' = R ∧ clo l 0 R A ∧ inS l A t = true)) := by
  by_cases h0 : 0 < R.length
  · obtain ⟨⟨b, A, R'⟩, e, ⟨q1, q2, q3, q4⟩, q5⟩ := F115_eq hH hC (hrs := h) 24 N (by omega) (t : Int) 0 R c (mu_24 0) (by omega) hR hl (by omega) (by rw [Int.toNat_natCast]; exact hc)
    refine ⟨b, A, R', fun _ => e, fun q => absurd h0 q, q1, ?_⟩
    cases b with
    | true =>
      obtain ⟨b1, b2, b3, b4⟩ := q4 rfl
      refine .inl ⟨rfl, b2, b1.trans hl, fun j => ?_⟩
      have := b4 (j : Int) (by omega)
      unfold cnt
      by_cases e : j = t
      · rw [if_pos e]; rw [if_pos (by omega)] at this; have t2 : List.count (j : Int) R' = _ := this; omega
      · rw [if_neg e]; rw [if_neg (by omega)] at this; have t2 : List.count (j : Int) R' = _ := this; omega
    | false =>
      obtain ⟨a1, a2⟩ := q3 rfl
      exact .inr ⟨rfl, a1, a2, inS_iff.2 ⟨c, hc, (subB_iff (okC_24 hH hC hc)).2 fun h hb => q5 rfl h (Nat.zero_le _) hb⟩⟩
  · have hz : H = 0 := by omega
    subst hz
    refine ⟨false, 0, R, fun q => absurd q h0, fun _ => ⟨F115n_eq hC hN hc, rfl⟩, by omega, .inr ⟨rfl, rfl, fun h ha _ => ?_, inS_iff.2 ⟨c, hc, (subB_iff (okC_24 hH hC hc)).2 fun h hb => ?_⟩⟩⟩
    · rw [bt0] at ha; cases ha
    · have := bt_lt (hC c (List.mem_iff_getElem?.2 ⟨_, hc⟩)) hb; omega
theorem F104_eq (H : Nat) (hH : H ≤ 24) (N : Nat) (hN : 60 ≤ N) (l : List Cm) : F104 N (H : Int) l = some ((H : Int), List.replicate H (-1)) := by
  have loop : ∀ (m i : Nat), i ≤ H → H < m + i → F104l1 (H : Int) m (List.replicate i (-1)) (i : Int) = some ((H : Int), List.replicate H (-1)) := by
    intro m
    induction m with
    | zero => intro i h1 h2; omega
    | succ m ih =>
      intro i h1 h2
      show F104b1 (H : Int) (F104l1 (H : Int) m) (List.replicate i (-1)) (i : Int) = _
      unfold F104b1
      by_cases hi : i < H
      · rw [if_pos (by omega), gdO_pos (by rw [List.length_replicate]; omega), ckO_pos (by unfold InR; omega), succ_cast, show List.replicate i (-1 : Int) ++ [-1] = List.replicate (i + 1) (-1) from List.replicate_succ'.symm]
        exact ih (i + 1) (by omega) (by omega)
      · have e : i = H := by omega
        subst e
        rw [if_neg (by omega)]
  exact loop N 0 (by omega) (by omega)
theorem okH_none (l : List Cm) (H : Nat) : okH l (List.replicate H (-1)) := by
  intro h x hx
  rw [List.getElem?_replicate] at hx
  by_cases e : h < H
  · rw [if_pos e] at hx; injection hx with hx; exact .inl hx.symm
  · rw [if_neg e] at hx; cases hx
theorem cnt_none (H j : Nat) : cnt (List.replicate H (-1)) j = 0 := by
  unfold cnt
  rw [List.count_replicate, if_neg (by simp)]; rfl
def inv (l : List Cm) (H v i : Nat) (R hs : List Int) : Prop := okH l R ∧ R.length = H ∧ hs.length = l.length ∧ (∀ j, j < l.length → hs[j]? = some (cnt R j)) ∧
  ∀ (j : Nat) c, l[j]? = some c → cnt R j ≤ c.wants ∧ cnt R j ≤ (v : Int) + (if j < i then 1 else 0) ∧ (cnt R j = (v : Int) + (if j < i then 1 else 0) ∨ cnt R j = c.wants ∨ frz l H R j)
theorem inv_skip {l : List Cm} {H v i : Nat} {R hs : List Int} {c : Cm} (hI : inv l H v i R hs) (hc : l[i]? = some c) (h : c.wants ≤ v ∨ cnt R i < v) : inv l H v (i + 1) R hs := by
  obtain ⟨h1, h2, h3, h4, h5⟩ := hI
  refine ⟨h1, h2, h3, h4, fun j d hd => ?_⟩
  obtain ⟨a1, a2, a3⟩ := h5 j d hd
  by_cases e : j = i
  · subst e
    rw [hc] at hd; injection hd with hd; subst hd
    rw [if_neg (by omega)] at a2 a3
    rw [if_pos (by omega)]
    refine ⟨a1, by omega, ?_⟩
    rcases a3 with q | q | q
    · exact .inr (.inl (by omega))
    · exact .inr (.inl q)
    · exact .inr (.inr q)
  · have e2 : (j < i + 1) ↔ (j < i) := by omega
    simp only [e2]
    exact ⟨a1, a2, a3⟩
theorem inv_fail {l : List Cm} {H v i : Nat} {R hs : List Int} {c : Cm} {A : Int} (hH : H ≤ 24) (hC : okC l H) (hI : inv l H v i R hs) (hc : l[i]? = some c) (hge : (v : Int) ≤ cnt R i) (hcl : clo l 0 R A) (hS : inS l A i = true) : inv l H v (i + 1) R hs := by
  obtain ⟨h1, h2, h3, h4, h5⟩ := hI
  refine ⟨h1, h2, h3, h4, fun j d hd => ?_⟩
  obtain ⟨a1, a2, a3⟩ := h5 j d hd
  by_cases e : j = i
  · subst e
    rw [if_neg (by omega)] at a2
    rw [if_pos (by omega)]
    refine ⟨a1, by omega, .inr (.inr ⟨A, hS, fun Q hQ hlQ => sat hH hC hQ h2 hlQ hcl, fun k hk hSk => ?_⟩)⟩
    obtain ⟨dk, hdk, _⟩ := inS_iff.1 hSk
    obtain ⟨b1, b2, _⟩ := h5 k dk hdk
    by_cases q : k < j
    · rw [if_pos q] at b2; exact ⟨by omega, fun _ => by omega⟩
    · rw [if_neg q] at b2; exact ⟨by omega, fun _ => by omega⟩
  · have e2 : (j < i + 1) ↔ (j < i) := by omega
    simp only [e2]
    exact ⟨a1, a2, a3⟩
theorem inv_more {l : List Cm} {H v i : Nat} {R R' hs : List Int} {c : Cm} (hI : inv l H v i R hs) (hc : l[i]? = some c) (hge : (v : Int) ≤ cnt R i) (hw : (v : Int) < c.wants) (ho : okH l R') (hl : R'.length = H) (hn : ∀ j, cnt R' j = cnt R j + if j = i then 1 else 0) :
    inv l H v (i + 1) R' (hs.set i (cnt R i + 1)) := by
  obtain ⟨h1, h2, h3, h4, h5⟩ := hI
  have hi : i < l.length := (List.getElem?_eq_some_iff.1 hc).1
  refine ⟨ho, hl, by rw [List.length_set, h3], fun j hj => ?_, fun j d hd => ?_⟩
  · rw [hn j, List.getElem?_set]
    by_cases e : i = j
    · subst e; rw [if_pos rfl, if_pos (by omega), if_pos rfl]
    · rw [if_neg e, if_neg (fun q => e q.symm), h4 j hj, Int.add_zero]
  · obtain ⟨a1, a2, a3⟩ := h5 j d hd
    rw [hn j]
    by_cases e : j = i
    · subst e
      rw [hc] at hd; injection hd with hd; subst hd
      rw [if_neg (by omega)] at a2
      rw [if_pos rfl, if_pos (by omega)]
      exact ⟨by omega, by omega, .inl (by omega)⟩
    · have e2 : (j < i + 1) ↔ (j < i) := by omega
      simp only [e2]
      rw [if_neg e, Int.add_zero]
      refine ⟨a1, a2, ?_⟩
      rcases a3 with q | q | q
      · exact .inl q
      · exact .inr (.inl q)
      · exact .inr (.inr (frz_more q ho hl hi hn))
theorem F80l3_eq {l : List Cm} {H : Nat} (hH : H ≤ 24) (hC : okC l H) (hn : l.length ≤ 12) {N : Nat} (hN : 60 ≤ N) {rec1 : List Int → List Int → Int → Option (Int × List Int × List Int)} {y : Int × List Int} {v : Nat} (hv : v ≤ 24) : ∀ (m i : Nat) (R hs : List Int), i ≤ l.length → l.length < m + i → inv l H v i R hs →
    ∃ R' hs', inv l H v l.length R' hs' ∧ F80l3 l N rec1 y (v : Int) m R hs (i : Int) = F80j2 rec1 (v : Int) R' hs' := by
  intro m
  induction m with
  | zero => intro i R hs h1 h2; omega
  | succ m ih =>
    intro i R hs h1 h2 hI
    show ∃ R' hs', _ ∧ F80b3 l N rec1 y (v : Int) (F80l3 l N rec1 y (v : Int) m) R hs (i : Int) = _
    unfold F80b3
    rcases drop_cases l i with ⟨hi, e⟩ | ⟨c, hi, hc, e⟩
    · have e : i = l.length := by omega
      subst e
      rw [if_neg (by omega)]
      exact ⟨R, hs, hI, rfl⟩
    · have hx := hI.2.2.2.1 i hi
      rw [if_pos (by omega), gdO_pos (by omega), Int.toNat_natCast, hc, bindO_some]
      have skip : (c.wants ≤ (v : Int) ∨ cnt R i < (v : Int)) → ∃ R' hs', inv l H v l.length R' hs' ∧ F80j5 (F80l3 l N rec1 y (v : Int) m) R hs (i : Int) = F80j2 rec1 (v : Int) R' hs' := fun q => by
        unfold F80j5 F80j4
        rw [ckO_pos (by unfold InR; omega), succ_cast]
        exact ih (i + 1) R hs hi (by omega) (inv_skip hI hc q)
      by_cases hw : c.wants ≤ (v : Int)
      · rw [if_pos hw]; exact skip (.inl hw)
      · rw [if_neg hw, hx, bindO_some]
        by_cases hh : cnt R i < (v : Int)
        · rw [if_pos hh]; exact skip (.inr hh)
        · rw [if_neg hh]
          have hR := hI.1
          have hl := hI.2.1
          have hle := (hI.2.2.2.2 i c hc).2.1
          rw [if_neg (by omega)] at hle
          have h0 := cnt_nn R i
          obtain ⟨b, A, R', e1, e2, hA, alt⟩ := more_eq hH hC (h := y.1) hN hR hl hc
          have go : ∃ R'' hs'', inv l H v l.length R'' hs'' ∧ F80j6 (F80l3 l N rec1 y (v : Int) m) hs (i : Int) (cnt R i) A b R' = F80j2 rec1 (v : Int) R'' hs'' := by
            unfold F80j6
            rcases alt with ⟨rfl, b1, b2, b3⟩ | ⟨rfl, rfl, b1, b2⟩
            · rw [if_pos rfl, ckO_pos (by unfold InR; omega)]
              unfold F80j4
              rw [ckO_pos (by unfold InR; omega), succ_cast, Int.toNat_natCast]
              exact ih (i + 1) R' _ hi (by omega) (inv_more hI hc (by omega) (by omega) b1 b2 b3)
            · rw [if_neg (by decide)]
              unfold F80j4
              rw [ckO_pos (by unfold InR; omega), succ_cast]
              exact ih (i + 1) R' hs hi (by omega) (inv_fail hH hC hI hc (by omega) b1 b2)
          by_cases hp : 0 < R.length
          · rw [if_pos hp, e1 hp, bindO_some]; exact go
          · obtain ⟨e3, e4⟩ := e2 hp
            rw [if_neg hp, e3, bindO_some]; rw [e4] at go; exact go
theorem inv_round {l : List Cm} {H v : Nat} {R hs : List Int} (hI : inv l H v l.length R hs) : inv l H (v + 1) 0 R hs := by
  obtain ⟨h1, h2, h3, h4, h5⟩ := hI
  refine ⟨h1, h2, h3, h4, fun j d hd => ?_⟩
  have hj : j < l.length := (List.getElem?_eq_some_iff.1 hd).1
  obtain ⟨a1, a2, a3⟩ := h5 j d hd
  rw [if_pos hj] at a2 a3
  rw [if_neg (by omega)]
  refine ⟨a1, by omega, ?_⟩
  rcases a3 with q | q | q
  · exact .inl (by omega)
  · exact .inr (.inl q)
  · exact .inr (.inr q)
theorem F80l1_eq {l : List Cm} {H : Nat} (hH : H ≤ 24) (hC : okC l H) (hn : l.length ≤ 12) {N : Nat} (hN : 60 ≤ N) {y : Int × List Int} : ∀ (m v : Nat) (R hs : List Int), v ≤ 24 → 24 < m + v → inv l H v 0 R hs →
    ∃ R' hs', inv l H 24 0 R' hs' ∧ F80l1 l N y m R hs (v : Int) = some (y.1, R', hs') := by
  intro m
  induction m with
  | zero => intro v R hs h1 h2; omega
  | succ m ih =>
    intro v R hs h1 h2 hI
    show ∃ R' hs', _ ∧ F80b1 l N y (F80l1 l N y m) R hs (v : Int) = _
    unfold F80b1
    by_cases hv : v < 24
    · rw [if_pos (by omega)]
      obtain ⟨R1, hs1, hI1, e⟩ := F80l3_eq hH hC hn hN (rec1 := F80l1 l N y m) (y := y) h1 N 0 R hs (by omega) (by omega) hI
      rw [show ((0 : Nat) : Int) = 0 from rfl] at e
      rw [e]
      unfold F80j2
      rw [ckO_pos (by unfold InR; omega), succ_cast]
      exact ih (v + 1) R1 hs1 (by omega) (by omega) (inv_round hI1)
    · have e : v = 24 := by omega
      subst e
      rw [if_neg (by omega)]
      exact ⟨R, hs, hI, rfl⟩
def filld (l : List Cm) (H : Nat) (R hs : List Int) : Prop := okH l R ∧ R.length = H ∧ hs.length = l.length ∧ (∀ j, j < l.length → hs[j]? = some (cnt R j)) ∧
  ∀ (j : Nat) c, l[j]? = some c → cnt R j ≤ c.wants ∧ (cnt R j = c.wants ∨ frz l H R j)
theorem okM_C {h : Int} {l : List Cm} (ok : okM h l) : ∃ H : Nat, h = (H : Int) ∧ H ≤ 24 ∧ okC l H ∧ l.length ≤ 12 ∧ ∀ c ∈ l, 0 ≤ c.wants ∧ c.wants ≤ 24 := by
  obtain ⟨hh, hn, hf⟩ := ok
  refine ⟨h.toNat, by omega, by omega, fun c hc => ?_, hn, fun c hc => ?_⟩
  · obtain ⟨k, hk⟩ := List.mem_iff_getElem?.1 hc
    exact ⟨(hf k c hk).1.2.1.1, (hf k c hk).2.1⟩
  · obtain ⟨k, hk⟩ := List.mem_iff_getElem?.1 hc
    exact (hf k c hk).1.2.2
theorem F80_eq {h : Int} {l : List Cm} (ok : okM h l) {N : Nat} (hN : 60 ≤ N) : ∃ R hs, F80 N h l = some (h, R, hs) ∧ filld l h.toNat R hs := by
  obtain ⟨H, rfl, hH, hC, hn, hw⟩ := okM_C ok
  unfold F80
  rw [F104_eq H hH N hN, bindO_some, gdO_pos (show (0 : Int) ≤ (l.length : Int) by omega), gdO_pos (show (l.length : Int) ≤ 1000000 by omega), Int.toNat_natCast, Int.toNat_natCast]
  have hI : inv l H 0 0 (List.replicate H (-1)) (List.replicate l.length 0) := by
    refine ⟨okH_none l H, List.length_replicate, List.length_replicate, fun j hj => by rw [List.getElem?_replicate, if_pos hj, cnt_none], fun j c hc => ?_⟩
    rw [cnt_none, if_neg (by omega)]
    exact ⟨(hw c (List.mem_iff_getElem?.2 ⟨_, hc⟩)).1, by omega, .inl rfl⟩
  obtain ⟨R, hs, ⟨h1, h2, h3, h4, h5⟩, e⟩ := F80l1_eq hH hC hn hN (y := ((H : Int), List.replicate H (-1))) N 0 _ _ (by omega) (by omega) hI
  refine ⟨R, hs, e, h1, h2, h3, h4, fun j c hc => ?_⟩
  obtain ⟨a1, a2, a3⟩ := h5 j c hc
  have hw' := hw c (List.mem_iff_getElem?.2 ⟨_, hc⟩)
  rw [if_neg (by omega)] at a2 a3
  refine ⟨a1, ?_⟩
  rcases a3 with q | q | q
  · exact .inl (by omega)
  · exact .inl q
  · exact .inr q
/-! serving demands -/
def Feas (l : List Cm) (H : Nat) (d : List Int) : Prop := ∃ Q, okH l Q ∧ Q.length = H ∧ ∀ (j : Nat) x, d[j]? = some x → x ≤ cnt Q j
def sinv (l : List Cm) (H : Nat) (d : List Int) (i : Nat) (k : Int) (R : List Int) : Prop := okH l R ∧ R.length = H ∧ ∀ (j : Nat) x, d[j]? = some x → cnt R j = if j < i then x else if j = i then k else 0
theorem no_feas {l : List Cm} {H : Nat} (hH : H ≤ 24) (hC : okC l H) {d : List Int} (hd : d.length = l.length) (hd0 : ∀ x ∈ d, 0 ≤ x) {i : Nat} {k x : Int} {R : List Int} (hI : sinv l H d i k R) (hx : d[i]? = some x) (hk : k < x) {A : Int} (hcl : clo l 0 R A) (hS : inS l A i = true) : ¬ Feas l H d := by
  rintro ⟨Q, hQ, hlQ, hge⟩
  obtain ⟨h1, h2, h3⟩ := hI
  have a := sat hH hC hQ h2 hlQ hcl
  have key : ∀ j, j < l.length → cnt R j ≤ cnt Q j := fun j hj => by
    have hdj : d[j]? = some d[j] := List.getElem?_eq_getElem (by omega)
    have b := h3 j _ hdj
    have c := hge j _ hdj
    have c0 := hd0 _ (List.mem_iff_getElem?.2 ⟨j, hdj⟩)
    by_cases e1 : j < i
    · rw [if_pos e1] at b; omega
    · rw [if_neg e1] at b
      by_cases e2 : j = i
      · rw [if_pos e2] at b; subst e2; rw [hdj] at hx; injection hx with hx; omega
      · rw [if_neg e2] at b; omega
  have hit : cnt R i < cnt Q i := by
    have b := h3 i x hx
    rw [if_neg (by omega), if_pos rfl] at b
    have := hge i x hx
    omega
  have := sumS_lt (S := inS l A) l.length (fun j hj _ => key j hj) i (inS_lt hS) hS hit
  omega
end Go.K
