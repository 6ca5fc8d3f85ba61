/- Who has which hour of the mill: hours as bits, holders, how many hours each comer has, and the search that makes room for one hour more. No condition. -/
import Derived.Test.YtofnbcfjdngakaaPY3
namespace Go.K
open Go.RowKit
set_option linter.unusedVariables false
set_option linter.unusedSimpArgs false
def bt (x : Int) (h : Nat) : Bool := x.toNat.testBit h
theorem F92_eq {v x : Int} (hv : 0 ≤ v ∧ v ≤ 62) (hx : 0 ≤ x ∧ x < 4611686018427387904) : F92 v x = some (bt x v.toNat) := by
  obtain ⟨k, rfl⟩ : ∃ k : Nat, v = k := ⟨v.toNat, by omega⟩
  obtain ⟨n, rfl⟩ : ∃ n : Nat, x = n := ⟨x.toNat, by omega⟩
  unfold F92
  have e : ((n : Int)).fdiv (2 ^ ((k : Int)).toNat) = ((n / 2 ^ k : Nat) : Int) := by
    rw [Int.toNat_natCast, Int.fdiv_eq_ediv_of_nonneg _ (Int.le_of_lt (Int.pow_pos (by decide))), Int.natCast_ediv, Int.natCast_pow]
    rfl
  have hle : n / 2 ^ k ≤ n := Nat.div_le_self _ _
  have hq : 0 ≤ ((n / 2 ^ k : Nat) : Int) ∧ ((n / 2 ^ k : Nat) : Int) < 4611686018427387904 := by
    generalize n / 2 ^ k = q at *
    omega
  rw [gdO_pos hv, e, gdO_pos hq.1, ckO_pos (by unfold InR; exact ⟨Int.le_trans (by decide) hq.1, Int.le_trans (Int.le_of_lt hq.2) (by decide)⟩)]
  have e2 : andI ((n / 2 ^ k : Nat) : Int) 1 = ((n / 2 ^ k % 2 : Nat) : Int) := by
    unfold andI
    rw [Int.toNat_natCast, show (1 : Int).toNat = 1 from rfl, Nat.and_one_is_mod]
  rw [e2]
  have e3 : bt (n : Int) ((k : Int)).toNat = decide (n / 2 ^ k % 2 = 1) := by
    unfold bt
    rw [Int.toNat_natCast, Int.toNat_natCast, Nat.testBit_eq_decide_div_mod_eq]
  rw [e3]
  by_cases h : n / 2 ^ k % 2 = 1
  · rw [h, if_pos (by decide), decide_eq_true rfl]
  · rw [if_neg (by omega), decide_eq_false h]
theorem p2_cast' (k : Nat) : (1 : Int) * 2 ^ k = ((2 ^ k : Nat) : Int) := by
  rw [Int.one_mul, Int.natCast_pow]; rfl
theorem or_bt {a : Int} (k h : Nat) : bt (orI a ((2 ^ k : Nat) : Int)) h = (bt a h || decide (k = h)) := by
  unfold bt orI
  rw [Int.toNat_natCast, Int.toNat_natCast, Nat.testBit_or, Nat.testBit_two_pow]
theorem or_bd {a : Int} {k : Nat} (ha : 0 ≤ a ∧ a < 16777216) (hk : k < 24) : 0 ≤ orI a ((2 ^ k : Nat) : Int) ∧ orI a ((2 ^ k : Nat) : Int) < 16777216 := by
  unfold orI
  rw [Int.toNat_natCast]
  have h1 : a.toNat < 2 ^ 24 := by have : (2 : Nat) ^ 24 = 16777216 := by decide
                                   omega
  have h2 : 2 ^ k < 2 ^ 24 := Nat.pow_lt_pow_right (by decide) hk
  have h3 := Nat.or_lt_two_pow h1 h2
  have : (2 : Nat) ^ 24 = 16777216 := by decide
  omega
theorem p2_ck {k : Nat} (hk : k < 24) : 1 ≤ ((2 ^ k : Nat) : Int) ∧ ((2 ^ k : Nat) : Int) ≤ 16777216 := by
  have h2 : 2 ^ k < 2 ^ 24 := Nat.pow_lt_pow_right (by decide) hk
  have : (2 : Nat) ^ 24 = 16777216 := by decide
  have := Nat.one_le_two_pow (n := k)
  omega
theorem bt_lt {x : Int} {H h : Nat} (hx : 0 ≤ x ∧ x < 2 ^ H) (hb : bt x h = true) : h < H := by
  unfold bt at hb
  rcases Nat.lt_or_ge h H with q | q
  · exact q
  · exfalso
    have e : x.toNat < 2 ^ h := by
      have hc2 : ((2 ^ H : Nat) : Int) = (2 : Int) ^ H := by rw [Int.natCast_pow]; rfl
      have h1 : (x.toNat : Int) < ((2 ^ H : Nat) : Int) := by rw [hc2]; omega
      have h2 := Nat.pow_le_pow_right (n := 2) (by decide) q
      omega
    rw [Nat.testBit_lt_two_pow e] at hb; cases hb
/-! how many hours are not asked for -/
theorem countP_lt {α : Type} {p q : α → Bool} : ∀ {l : List α}, (∀ x ∈ l, p x = true → q x = true) → (a : α) → a ∈ l → q a = true → p a = false → l.countP p < l.countP q
  | [], _, a, ha, _, _ => by cases ha
  | x :: l, h, a, ha, hq, hp => by
    have hle : l.countP p ≤ l.countP q := List.countP_mono_left fun y hy => h y (List.mem_cons_of_mem _ hy)
    rw [List.countP_cons, List.countP_cons]
    rcases List.mem_cons.1 ha with e | e
    · subst e; rw [hq, hp]; simp; omega
    · have ih := countP_lt (fun y hy => h y (List.mem_cons_of_mem _ hy)) a e hq hp
      have h0 := h x (List.mem_cons_self ..)
      by_cases hx : p x = true
      · rw [if_pos hx, if_pos (h0 hx)]; omega
      · rw [if_neg hx]; omega
def mu (A : Int) : Nat := (List.range 24).countP fun h => !bt A h
theorem mu_le {A A' : Int} (h : ∀ i, bt A i = true → bt A' i = true) : mu A' ≤ mu A := by
  refine List.countP_mono_left fun x _ hx => ?_
  cases e : bt A x with
  | false => rfl
  | true => rw [h x e] at hx; cases hx
theorem mu_or {A : Int} {k : Nat} (hk : k < 24) (h : bt A k = false) : mu (orI A ((2 ^ k : Nat) : Int)) < mu A := by
  refine countP_lt (fun x _ hx => ?_) k (List.mem_range.2 hk) (by rw [h]; rfl) (by rw [or_bt]; simp)
  rw [or_bt] at hx
  cases e : bt A x with
  | false => rfl
  | true => rw [e] at hx; cases hx
theorem mu_24 (A : Int) : mu A ≤ 24 := by
  have := List.countP_le_length (p := fun h => !bt A h) (l := List.range 24)
  rw [List.length_range] at this; exact this
/-! holders -/
def okC (l : List Cm) (H : Nat) : Prop := ∀ c ∈ l, 0 ≤ c.hrs ∧ c.hrs < 2 ^ H
def okH (l : List Cm) (R : List Int) : Prop := ∀ (h : Nat) (x : Int), R[h]? = some x → x = -1 ∨ (0 ≤ x ∧ ∃ c, l[x.toNat]? = some c ∧ bt c.hrs h = true)
/-- what is in A', and not in A, is held by those who can come at no hour outside A' -/
def clo (l : List Cm) (A : Int) (R : List Int) (A' : Int) : Prop := ∀ h, bt A' h = true → bt A h = false → ∃ x c, R[h]? = some x ∧ 0 ≤ x ∧ l[x.toNat]? = some c ∧ ∀ i, bt c.hrs i = true → bt A' i = true
def posA (l : List Cm) (A : Int) (R : List Int) (t : Int) (z : Bool × Int × List Int) : Prop :=
  (0 ≤ z.2.1 ∧ z.2.1 < 16777216) ∧ (∀ h, bt A h = true → bt z.2.1 h = true) ∧ (z.1 = false → z.2.2 = R ∧ clo l A R z.2.1) ∧
  (z.1 = true → z.2.2.length = R.length ∧ okH l z.2.2 ∧ (∀ h, bt A h = true → z.2.2[h]? = R[h]?) ∧ ∀ j : Int, j ≠ -1 → z.2.2.count j = R.count j + if j = t then 1 else 0)
def posL (l : List Cm) (v : Nat) (hrs : Int) (A : Int) (R : List Int) (t : Int) (z : Bool × Int × List Int) : Prop :=
  posA l A R t z ∧ (z.1 = false → ∀ h, v ≤ h → bt hrs h = true → bt z.2.1 h = true)
theorem okH_set {l : List Cm} {R : List Int} {t : Int} {c : Cm} {v : Nat} (h : okH l R) (ht : 0 ≤ t) (hc : l[t.toNat]? = some c) (hb : bt c.hrs v = true) : okH l (R.set v t) := by
  intro i x hx
  rw [List.getElem?_set] at hx
  by_cases e : v = i
  · subst e
    rw [if_pos rfl] at hx
    by_cases hl : v < R.length
    · rw [if_pos hl] at hx; injection hx with hx; subst hx; exact .inr ⟨ht, c, hc, hb⟩
    · rw [if_neg hl] at hx; cases hx
  · rw [if_neg e] at hx; exact h i x hx
theorem cnt_set {R : List Int} {v : Nat} {x t : Int} (h : R[v]? = some x) (j : Int) : (R.set v t).count j + (if x = j then 1 else 0) = R.count j + if t = j then 1 else 0 := by
  obtain ⟨hl, hx⟩ := List.getElem?_eq_some_iff.1 h
  rw [List.count_set hl, hx]
  have h0 : (if x == j then 1 else 0) ≤ R.count j := by
    by_cases e : x = j
    · subst e; simp; exact List.mem_iff_getElem?.2 ⟨v, h⟩
    · simp [e]
  simp only [beq_iff_eq] at h0 ⊢
  omega
/-- an hour is taken over -/
theorem take_over {l : List Cm} {A A1 A2 : Int} {R R2 : List Int} {v : Nat} {t x : Int} {c : Cm} (hA : bt A v = false) (h1 : ∀ h, bt A1 h = (bt A h || decide (v = h))) (h2 : 0 ≤ A2 ∧ A2 < 16777216) (h3 : ∀ h, bt A1 h = true → bt A2 h = true)
    (hl : R2.length = R.length) (ho : okH l R2) (hs : ∀ h, bt A1 h = true → R2[h]? = R[h]?) (hx : R[v]? = some x) (hn : ∀ j : Int, j ≠ -1 → R2.count j = R.count j + if j = x then 1 else 0)
    (ht : 0 ≤ t) (hc : l[t.toNat]? = some c) (hb : bt c.hrs v = true) : ∃ z, F115j3 t (v : Int) R2 A2 = some z ∧ z.1 = true ∧ posA l A R t z := by
  have hv : bt A1 v = true := by rw [h1]; simp
  have hx2 : R2[v]? = some x := by rw [hs v hv, hx]
  unfold F115j3
  rw [Int.toNat_natCast, hx2, bindO_some]
  refine ⟨_, rfl, rfl, h2, fun h hh => h3 h (by rw [h1, hh]; rfl), fun q => (by cases q), fun _ => ⟨by rw [List.length_set, hl], okH_set ho ht hc hb, fun h hh => ?_, fun j hj => ?_⟩⟩
  · have hne : v ≠ h := fun e => by subst e; rw [hA] at hh; cases hh
    show (R2.set v t)[h]? = _
    rw [List.getElem?_set_ne hne]
    exact hs h (by rw [h1, hh]; rfl)
  · have a := cnt_set (t := t) hx2 j
    have b := hn j hj
    show (R2.set v t).count j = _
    by_cases e1 : j = x <;> by_cases e2 : j = t
    · rw [if_pos e1.symm, if_pos e2.symm] at a; rw [if_pos e1] at b; rw [if_pos e2]; omega
    · rw [if_pos e1.symm, if_neg (fun q => e2 q.symm)] at a; rw [if_pos e1] at b; rw [if_neg e2]; omega
    · rw [if_neg (fun q => e1 q.symm), if_pos e2.symm] at a; rw [if_neg e1] at b; rw [if_pos e2]; omega
    · rw [if_neg (fun q => e1 q.symm), if_neg (fun q => e2 q.symm)] at a; rw [if_neg e1] at b; rw [if_neg e2]; omega
theorem loop115 {l : List Cm} {H : Nat} (hH : H ≤ 24) (hC : okC l H) {rec0 : Int → Int → Int → List Cm → List Int → Option (Bool × Int × List Int)} {hrs : Int} {n : Nat}
    (hrec : ∀ (x A : Int) (R : List Int) (d : Cm), mu A < n → (0 ≤ A ∧ A < 16777216) → okH l R → R.length = H → 0 ≤ x → l[x.toNat]? = some d → ∃ z, rec0 x A hrs l R = some z ∧ posL l 0 d.hrs A R x z)
    {t : Int} {c : Cm} (ht : 0 ≤ t) (hc : l[t.toNat]? = some c) : ∀ (m v : Nat) (A : Int) (R : List Int), v ≤ 24 → 24 < m + v → mu A ≤ n → (0 ≤ A ∧ A < 16777216) → okH l R → R.length = H →
    ∃ z, F115l1 t hrs l rec0 c m (v : Int) R A = some z ∧ posL l v c.hrs A R t z := by
  intro m
  have hcm := hC c (List.mem_iff_getElem?.2 ⟨_, hc⟩)
  have hp24 : ∀ n, n < 25 → (1 : Int) ≤ 2 ^ n ∧ (2 : Int) ^ n ≤ 16777216 := by decide
  have hp := hp24 H (by omega)
  induction m with
  | zero => intro v A R h1 h2; omega
  | succ m ih =>
    intro v A R h1 h2 hmu hA hR hl
    show ∃ z, F115b1 t hrs l rec0 c (F115l1 t hrs l rec0 c m) (v : Int) R A = some z ∧ _
    unfold F115b1
    rcases Nat.lt_or_ge v 24 with hv | hv
    · rw [if_pos (by omega), F92_eq (by omega) (by omega), bindO_some, Int.toNat_natCast]
      have nxt : ∀ A' : Int, (∀ h, bt A h = true → bt A' h = true) → (0 ≤ A' ∧ A' < 16777216) → (bt c.hrs v = true → bt A' v = true) → clo l A R A' → ∃ z, F115j2 (F115l1 t hrs l rec0 c m) (v : Int) R A' = some z ∧ posL l v c.hrs A R t z := by
        intro A' hAA hA' hbv hcl
        unfold F115j2
        rw [ckO_pos (by unfold InR; omega), succ_cast]
        obtain ⟨z, e, ⟨q1, q2, q3, q4⟩, q5⟩ := ih (v + 1) A' R (by omega) (by omega) (Nat.le_trans (mu_le hAA) hmu) hA' hR hl
        refine ⟨z, e, ⟨q1, fun h hh => q2 h (hAA h hh), fun hz => ⟨(q3 hz).1, fun h ha hb => ?_⟩, fun hz => ?_⟩, fun hz h hvh hb => ?_⟩
        · by_cases e1 : bt A' h = true
          · obtain ⟨x, d, a1, a2, a3, a4⟩ := hcl h e1 hb
            exact ⟨x, d, a1, a2, a3, fun i hi => q2 i (a4 i hi)⟩
          · exact (q3 hz).2 h ha (by simpa using e1)
        · obtain ⟨b1, b2, b3, b4⟩ := q4 hz
          exact ⟨b1, b2, fun h hh => b3 h (hAA h hh), b4⟩
        · rcases Nat.eq_or_lt_of_le hvh with e1 | e1
          · subst e1; exact q2 v (hbv hb)
          · exact q5 hz h e1 hb
      have cloA : clo l A R A := fun h ha hb => by rw [ha] at hb; cases hb
      by_cases hb : bt c.hrs v = true
      · rw [if_pos hb, F92_eq (by omega) (by omega), bindO_some, Int.toNat_natCast]
        by_cases ha : bt A v = true
        · rw [if_pos ha]
          exact nxt A (fun _ h => h) hA (fun _ => ha) cloA
        · have ha' : bt A v = false := by simpa using ha
          have hvH : v < H := bt_lt hcm hb
          have hk := p2_ck hv
          rw [if_neg ha, gdO_pos (by omega), p2_cast', ckO_pos (by unfold InR; omega), gdO_pos hA.1, gdO_pos (by omega), ckO_pos (by unfold InR; omega), gdO_pos (by omega)]
          have hxx : R[v]? = some R[v] := List.getElem?_eq_getElem (by omega)
          generalize R[v] = x at hxx
          rw [hxx, bindO_some]
          have hor := or_bd hA hv
          have hsub : ∀ h, bt A h = true → bt (orI A ((2 ^ v : Nat) : Int)) h = true := fun h hh => by rw [or_bt, hh]; rfl
          by_cases hx1 : x = -1
          · rw [if_pos hx1]
            obtain ⟨z, e, hz, hpos⟩ := take_over (x := x) (R := R) (R2 := R) (A2 := orI A ((2 ^ v : Nat) : Int)) ha' (fun h => or_bt v h) hor (fun _ h => h) rfl hR (fun _ _ => rfl) hxx (fun j hj => by rw [if_neg (by omega)]; rfl) ht hc hb
            exact ⟨z, e, hpos, fun q => by rw [hz] at q; cases q⟩
          · rw [if_neg hx1]
            rcases hR v x hxx with q | ⟨hx0, d, hd, hdb⟩
            · exact absurd q hx1
            · obtain ⟨z, e, ⟨q1, q2, q3, q4⟩, q5⟩ := hrec x _ R d (Nat.lt_of_lt_of_le (mu_or hv ha') hmu) hor hR hl hx0 hd
              rw [e, bindO_some]
              by_cases hz : z.1 = true
              · rw [if_pos hz]
                obtain ⟨b1, b2, b3, b4⟩ := q4 hz
                obtain ⟨z', e', hz', hpos⟩ := take_over (x := x) (R := R) (R2 := z.2.2) (A2 := z.2.1) ha' (fun h => or_bt v h) q1 q2 b1 b2 b3 hxx b4 ht hc hb
                exact ⟨z', e', hpos, fun q => by rw [hz'] at q; cases q⟩
              · rw [if_neg hz]
                have hz' : z.1 = false := by simpa using hz
                obtain ⟨r1, r2⟩ := q3 hz'
                rw [r1]
                refine nxt z.2.1 (fun h hh => q2 h (hsub h hh)) q1 (fun _ => q2 v (by rw [or_bt]; simp)) fun h g1 g2 => ?_
                by_cases e1 : bt (orI A ((2 ^ v : Nat) : Int)) h = true
                · rw [or_bt, g2] at e1
                  have e2 : v = h := by simpa using e1
                  subst e2
                  exact ⟨x, d, hxx, hx0, hd, fun i hi => q5 hz' i (Nat.zero_le _) hi⟩
                · exact r2 h g1 (by simpa using e1)
      · rw [if_neg hb]
        exact nxt A (fun _ h => h) hA (fun q => absurd q hb) cloA
    · rw [if_neg (by omega)]
      refine ⟨_, rfl, ⟨hA, fun _ h => h, fun _ => ⟨rfl, fun h ha hb => by rw [ha] at hb; cases hb⟩, fun q => by cases q⟩, fun _ h hvh hb => ?_⟩
      exact absurd (bt_lt hcm hb) (by omega)
theorem F115_eq {l : List Cm} {H : Nat} (hH : H ≤ 24) (hC : okC l H) {hrs : Int} : ∀ (n N : Nat), n + 26 ≤ N → ∀ (t A : Int) (R : List Int) (c : Cm), mu A ≤ n → (0 ≤ A ∧ A < 16777216) → okH l R → R.length = H → 0 ≤ t → l[t.toNat]? = some c →
    ∃ z, F115 N t A hrs l R = some z ∧ posL l 0 c.hrs A R t z := by
  intro n
  induction n with
  | zero =>
    intro N hN t A R c h1 h2 h3 h4 ht hc
    obtain ⟨M, rfl⟩ : ∃ M, N = M + 1 := ⟨N - 1, by omega⟩
    show ∃ z, F115b M (F115 M) t A hrs l R = some z ∧ _
    unfold F115b
    rw [gdO_pos ht, hc, bindO_some]
    exact loop115 (n := 0) hH hC (fun x A R d h => by omega) ht hc M 0 A R (by omega) (by omega) h1 h2 h3 h4
  | succ n ih =>
    intro N hN t A R c h1 h2 h3 h4 ht hc
    obtain ⟨M, rfl⟩ : ∃ M, N = M + 1 := ⟨N - 1, by omega⟩
    show ∃ z, F115b M (F115 M) t A hrs l R = some z ∧ _
    unfold F115b
    rw [gdO_pos ht, hc, bindO_some]
    exact loop115 (n := n + 1) hH hC (fun x A R d h => ih M (by omega) x A R d (by omega)) ht hc M 0 A R (by omega) (by omega) h1 h2 h3 h4
end Go.K
