/- The reference's way to give one hour more, and its plans. No condition. -/
import Derived.Test.YtofnbcfjdngakaaPYd
namespace Go.K
open Go.RowKit
set_option linter.unusedVariables false
set_option linter.unusedSimpArgs false
theorem bindS_inl {α β γ : Type} (a : α) (k1 : α → Option γ) (k2 : β → Option γ) : bindS (some (.inl a)) k1 k2 = k1 a := rfl
theorem bindS_inr {α β γ : Type} (b : β) (k1 : α → Option γ) (k2 : β → Option γ) : bindS (some (.inr b)) k1 k2 = k2 b := rfl
/-- hours that were tried -/
def tr (T : List Bool) (h : Nat) : Prop := T[h]? = some true
theorem tr_set {T : List Bool} {v : Nat} (hv : v < T.length) (h : Nat) : tr (T.set v true) h ↔ tr T h ∨ h = v := by
  unfold tr
  rw [List.getElem?_set]
  by_cases e : v = h
  · subst e; rw [if_pos rfl, if_pos hv]; exact ⟨fun _ => .inr rfl, fun _ => rfl⟩
  · rw [if_neg e]; exact ⟨.inl, fun q => q.elim id fun z => absurd z.symm e⟩
def nu (T : List Bool) : Nat := T.countP fun b => !b
theorem nu_le {T T' : List Bool} (hl : T'.length = T.length) (h : ∀ i, tr T i → tr T' i) : nu T' ≤ nu T := by
  unfold nu
  have : ∀ (a b : List Bool), b.length = a.length → (∀ i : Nat, a[i]? = some true → b[i]? = some true) → (b.countP fun x => !x) ≤ a.countP fun x => !x := by
    intro a
    induction a with
    | nil => intro b hb _; cases b with
      | nil => exact Nat.le_refl _
      | cons y b => simp at hb
    | cons x a ih =>
      intro b hb hh
      cases b with
      | nil => simp at hb
      | cons y b =>
        have i1 := ih b (by simpa using hb) fun i hi => by have := hh (i + 1) (by simpa using hi); simpa using this
        have h0 := hh 0
        rw [List.countP_cons, List.countP_cons]
        cases x with
        | true => have : y = true := by simpa using h0 rfl
                  subst this; simpa using i1
        | false => cases y <;> simp <;> omega
  exact this T T' hl h
theorem nu_set {T : List Bool} {v : Nat} (hv : v < T.length) (h : T[v]? = some false) : nu (T.set v true) < nu T := by
  unfold nu
  have : ∀ (a : List Bool) (v : Nat), a[v]? = some false → ((a.set v true).countP fun x => !x) < a.countP fun x => !x := by
    intro a
    induction a with
    | nil => intro v h; simp at h
    | cons x a ih =>
      intro v h
      cases v with
      | zero =>
        have : x = false := by simpa using h
        subst this
        rw [List.set_cons_zero, List.countP_cons, List.countP_cons]; simp
      | succ v =>
        have := ih v (by simpa using h)
        rw [List.set_cons_succ, List.countP_cons, List.countP_cons]; omega
  exact this T v h
def cloT (l : List Cm) (R : List Int) (T T' : List Bool) : Prop := ∀ h, tr T' h → ¬ tr T h → ∃ x c, R[h]? = some x ∧ 0 ≤ x ∧ l[x.toNat]? = some c ∧ ∀ i, bt c.hrs i = true → tr T' i ∨ R[i]? = some x
def posG (l : List Cm) (H : Nat) (R : List Int) (t : Int) (T : List Bool) (z : List Bool ⊕ (List Int × List Bool)) : Prop :=
  (∃ T', z = .inl T' ∧ T'.length = T.length ∧ (∀ h, tr T h → tr T' h) ∧ cloT l R T T') ∨
  (∃ R' T', z = .inr (R', T') ∧ R'.length = H ∧ okH l R' ∧ ∀ j : Int, j ≠ -1 → R'.count j = R.count j + if j = t then 1 else 0)
def posGL (l : List Cm) (H : Nat) (v : Nat) (hrs : Int) (R : List Int) (t : Int) (T : List Bool) (z : List Bool ⊕ (List Int × List Bool)) : Prop :=
  posG l H R t T z ∧ ∀ T', z = .inl T' → ∀ h, v ≤ h → bt hrs h = true → tr T' h ∨ R[h]? = some t
theorem loop106 {l : List Cm} {H : Nat} (hH : H ≤ 24) (hC : okC l H) {rec0 : Int → List Cm → List Int → Int → List Bool → Option (List Bool ⊕ (List Int × List Bool))} {n : Nat}
    (hrec : ∀ (x : Int) (T : List Bool) (R : List Int) (d : Cm), nu T < n → T.length = 24 → okH l R → R.length = H → 0 ≤ x → l[x.toNat]? = some d → ∃ z, rec0 (H : Int) l R x T = some z ∧ posGL l H 0 d.hrs R x T z)
    {t : Int} {c : Cm} (ht : 0 ≤ t) (hc : l[t.toNat]? = some c) (R : List Int) (hR : okH l R) (hl : R.length = H) : ∀ (m v : Nat) (T : List Bool), v ≤ H → H < m + v → nu T ≤ n → T.length = 24 →
    ∃ z, F106l1 (H : Int) l R t rec0 m T (v : Int) = some z ∧ posGL l H v c.hrs R t T z := by
  intro m
  have hcb := okC_24 hH hC hc
  have hcm := hC c (List.mem_iff_getElem?.2 ⟨_, hc⟩)
  induction m with
  | zero => intro v T h1 h2; omega
  | succ m ih =>
    intro v T h1 h2 hnu hT
    show ∃ z, F106b1 (H : Int) l R t rec0 (F106l1 (H : Int) l R t rec0 m) T (v : Int) = some z ∧ _
    unfold F106b1
    by_cases hv : v < H
    · have hp := p2_ck (k := v) (by omega)
      have nxt : ∀ T' : List Bool, T'.length = 24 → (∀ h, tr T h → tr T' h) → (bt c.hrs v = true → tr T' v ∨ R[v]? = some t) → cloT l R T T' → ∃ z, F106j2 (F106l1 (H : Int) l R t rec0 m) (v : Int) T' = some z ∧ posGL l H v c.hrs R t T z := by
        intro T' hT' hTT hbv hcl
        unfold F106j2
        rw [ckO_pos (by unfold InR; omega), succ_cast]
        obtain ⟨z, e, q1, q5⟩ := ih (v + 1) T' (by omega) (by omega) (Nat.le_trans (nu_le (by omega) hTT) hnu) hT'
        refine ⟨z, e, ?_, fun T2 hz h hvh hb => ?_⟩
        · rcases q1 with ⟨T2, a1, a2, a3, a4⟩ | ⟨R2, T2, a1, a2⟩
          · refine .inl ⟨T2, a1, by omega, fun h hh => a3 h (hTT h hh), fun h ha hb => ?_⟩
            by_cases e1 : tr T' h
            · obtain ⟨x, d, b1, b2, b3, b4⟩ := hcl h e1 hb
              exact ⟨x, d, b1, b2, b3, fun i hi => (b4 i hi).imp (a3 i) id⟩
            · exact a4 h ha e1
          · exact .inr ⟨R2, T2, a1, a2⟩
        · rcases Nat.eq_or_lt_of_le hvh with e1 | e1
          · subst e1
            rcases q1 with ⟨T3, a1, a2, a3, a4⟩ | ⟨R2, T3, a1, _⟩
            · rw [hz] at a1; injection a1 with a1; subst a1
              exact (hbv hb).imp (a3 v) id
            · rw [hz] at a1; cases a1
          · exact q5 T2 hz h e1 hb
      have clo0 : cloT l R T T := fun h ha hb => absurd ha hb
      rw [if_pos (by omega)]
      unfold F94
      rw [gdO_pos ht, hc, bindO_some, gdO_pos (by omega), Int.toNat_natCast, p2_cast', ckO_pos (by unfold InR; omega), gdO_pos (by omega), gdO_pos (by omega), ckO_pos (by unfold InR; omega)]
      unfold F106j3
      by_cases hb : andI c.hrs ((2 ^ v : Nat) : Int) = 0
      · rw [if_pos hb, bindO_some, if_neg (by decide)]
        exact nxt T hT (fun _ h => h) (fun q => by rw [(and_bt2 v).1 hb] at q; cases q) clo0
      · have hbt : bt c.hrs v = true := by
          cases e : bt c.hrs v with
          | true => rfl
          | false => exact absurd ((and_bt2 v).2 e) hb
        obtain ⟨b, hbv⟩ : ∃ b, T[v]? = some b := ⟨_, List.getElem?_eq_getElem (show v < T.length by omega)⟩
        obtain ⟨x, hx⟩ : ∃ x, R[v]? = some x := ⟨_, List.getElem?_eq_getElem (show v < R.length by omega)⟩
        rw [if_neg hb, bindO_some, if_pos rfl, gdO_pos (by omega), hbv, bindO_some]
        by_cases hbb : b = true
        · rw [if_pos hbb]
          exact nxt T hT (fun _ h => h) (fun _ => .inl (by unfold tr; rw [hbv, hbb])) clo0
        · have hbf : b = false := by simpa using hbb
          subst hbf
          rw [if_neg (by decide), hx, bindO_some]
          by_cases hxt : x = t
          · rw [if_pos hxt]
            exact nxt T hT (fun _ h => h) (fun _ => .inr (by rw [hx, hxt])) clo0
          · rw [if_neg hxt, gdO_pos (by omega)]
            have hvT : v < T.length := by omega
            have hvR : v < R.length := by omega
            have okn := okH_set (v := v) hR ht hc hbt
            by_cases hx0 : x < 0
            · rw [if_pos hx0]
              refine ⟨_, rfl, .inr ⟨_, _, rfl, by rw [List.length_set, hl], okn, fun j hj => ?_⟩, fun T' hz => by cases hz⟩
              have hx1 : x = -1 := by
                rcases hR v x hx with q | ⟨q, _⟩
                · exact q
                · omega
              have a := cnt_set (t := t) hx j
              rw [if_neg (by omega)] at a
              by_cases e2 : j = t
              · rw [if_pos e2.symm] at a; rw [if_pos e2]; omega
              · rw [if_neg (fun q => e2 q.symm)] at a; rw [if_neg e2]; omega
            · rw [if_neg hx0]
              rcases hR v x hx with q | ⟨hx1, d, hd, hdb⟩
              · omega
              · obtain ⟨z, ez, q1, q2⟩ := hrec x (T.set v true) (R.set v t) d (Nat.lt_of_lt_of_le (nu_set hvT hbv) hnu) (by rw [List.length_set, hT]) okn (by rw [List.length_set, hl]) hx1 hd
                rcases q1 with ⟨T2, rfl, a2, a3, a4⟩ | ⟨R2, T2, rfl, a2, a3, a4⟩
                · rw [ez, bindS_inl]
                  unfold F106j4
                  rw [List.length_set] at a2
                  have back : ∀ (i : Nat) (y : Int), y ≠ t → (R.set v t)[i]? = some y → R[i]? = some y := fun i y hy hi => by
                    rw [List.getElem?_set] at hi
                    by_cases e : v = i
                    · rw [if_pos e, if_pos hvR] at hi
                      injection hi with hi; exact absurd hi.symm hy
                    · rw [if_neg e] at hi; exact hi
                  have hv2 : tr T2 v := a3 v ((tr_set hvT v).2 (.inr rfl))
                  refine nxt T2 (by omega) (fun h hh => a3 h ((tr_set hvT h).2 (.inl hh))) (fun _ => .inl hv2) fun h g1 g2 => ?_
                  by_cases e : h = v
                  · subst e
                    refine ⟨x, d, hx, hx1, hd, fun i hi => ?_⟩
                    rcases q2 T2 rfl i (Nat.zero_le _) hi with r | r
                    · exact .inl r
                    · exact .inr (back i x hxt r)
                  · have hnt : ¬ tr (T.set v true) h := fun r => ((tr_set hvT h).1 r).elim g2 e
                    obtain ⟨y, d', b1, b2, b3, b4⟩ := a4 h g1 hnt
                    have b1' : R[h]? = some y := by rw [List.getElem?_set_ne (fun q => e q.symm)] at b1; exact b1
                    refine ⟨y, d', b1', b2, b3, fun i hi => ?_⟩
                    rcases b4 i hi with r | r
                    · exact .inl r
                    · by_cases e3 : v = i
                      · subst e3; exact .inl hv2
                      · rw [List.getElem?_set_ne e3] at r; exact .inr r
                · rw [ez, bindS_inr]
                  refine ⟨_, rfl, .inr ⟨R2, T2, rfl, a2, a3, fun j hj => ?_⟩, fun T' hz => by cases hz⟩
                  have a := cnt_set (t := t) hx j
                  have b := a4 j hj
                  by_cases e1 : j = x <;> by_cases e2 : j = t
                  · exact absurd (e1.symm.trans e2) hxt
                  · rw [if_pos e1.symm, if_neg (fun q => e2 q.symm)] at a; rw [if_pos e1] at b; rw [if_neg e2]; omega
                  · rw [if_neg (fun q => e1 q.symm), if_pos e2.symm] at a; rw [if_neg e1] at b; rw [if_pos e2]; omega
                  · rw [if_neg (fun q => e1 q.symm), if_neg (fun q => e2 q.symm)] at a; rw [if_neg e1] at b; rw [if_neg e2]; omega
    · rw [if_neg (by omega)]
      refine ⟨_, rfl, .inl ⟨T, rfl, rfl, fun _ h => h, fun h ha hb => absurd ha hb⟩, fun T' _ h hvh hb => ?_⟩
      exact absurd (bt_lt hcm hb) (by omega)
theorem F106_eq {l : List Cm} {H : Nat} (hH : H ≤ 24) (hC : okC l H) : ∀ (n N : Nat), n + 26 ≤ N → ∀ (t : Int) (T : List Bool) (R : List Int) (c : Cm), nu T ≤ n → T.length = 24 → okH l R → R.length = H → 0 ≤ t → l[t.toNat]? = some c →
    ∃ z, F106 N (H : Int) l R t T = some z ∧ posGL l H 0 c.hrs R t T z := by
  intro n
  induction n with
  | zero =>
    intro N hN t T R c h1 h2 h3 h4 ht hc
    obtain ⟨M, rfl⟩ : ∃ M, N = M + 1 := ⟨N - 1, by omega⟩
    show ∃ z, F106b M (F106 M) (H : Int) l R t T = some z ∧ _
    unfold F106b
    exact loop106 (n := 0) hH hC (fun x A R d h => by omega) ht hc R h3 h4 M 0 T (by omega) (by omega) h1 h2
  | succ n ih =>
    intro N hN t T R c h1 h2 h3 h4 ht hc
    obtain ⟨M, rfl⟩ : ∃ M, N = M + 1 := ⟨N - 1, by omega⟩
    show ∃ z, F106b M (F106 M) (H : Int) l R t T = some z ∧ _
    unfold F106b
    exact loop106 (n := n + 1) hH hC (fun x A R d h => ih M (by omega) x A R d (by omega)) ht hc R h3 h4 M 0 T (by omega) (by omega) h1 h2
theorem bits_of (P : Nat → Prop) : ∀ n, n ≤ 24 → ∃ A : Int, (0 ≤ A ∧ A < 16777216) ∧ ∀ h, bt A h = true ↔ (h < n ∧ P h) := by
  intro n
  induction n with
  | zero => intro _; exact ⟨0, by omega, fun h => ⟨fun q => (by rw [bt0] at q; cases q), fun q => by omega⟩⟩
  | succ n ih =>
    intro hn
    obtain ⟨A, hA, h⟩ := ih (by omega)
    by_cases hp : P n
    · refine ⟨orI A ((2 ^ n : Nat) : Int), or_bd hA (by omega), fun i => ?_⟩
      rw [or_bt, Bool.or_eq_true, h i, decide_eq_true_eq]
      constructor
      · rintro (⟨a, b⟩ | a)
        · exact ⟨by omega, b⟩
        · subst a; exact ⟨by omega, hp⟩
      · rintro ⟨a, b⟩
        by_cases e : n = i
        · exact .inr e
        · exact .inl ⟨by omega, b⟩
    · refine ⟨A, hA, fun i => (h i).trans ⟨fun ⟨a, b⟩ => ⟨by omega, b⟩, fun ⟨a, b⟩ => ⟨?_, b⟩⟩⟩
      rcases Nat.eq_or_lt_of_le (Nat.le_of_lt_succ a) with e | e
      · subst e; exact absurd b hp
      · exact e
theorem give_eq {l : List Cm} {H : Nat} (hH : H ≤ 24) (hC : okC l H) {N : Nat} (hN : 60 ≤ N) {R : List Int} (hR : okH l R) (hl : R.length = H) {t : Nat} {c : Cm} (hc : l[t]? = some c) :
    (∃ T', F106 N (H : Int) l R (t : Int) (List.replicate 24 false) = some (.inl T') ∧ ∃ A, (0 ≤ A ∧ A < 16777216) ∧ clo l 0 R A ∧ inS l A t = true) ∨
    (∃ R' T', F106 N (H : Int) l R (t : Int) (List.replicate 24 false) = some (.inr (R', T')) ∧ okH l R' ∧ R'.length = H ∧ ∀ j, cnt R' j = cnt R j + if j = t then 1 else 0) := by
  have n24 : nu (List.replicate 24 false) ≤ 24 := by decide
  obtain ⟨z, e, q1, q2⟩ := F106_eq hH hC 24 N (by omega) (t : Int) (List.replicate 24 false) R c n24 (by simp) hR hl (by omega) (by rw [Int.toNat_natCast]; exact hc)
  rcases q1 with ⟨T', rfl, a2, a3, a4⟩ | ⟨R', T', rfl, a2, a3, a4⟩
  · left
    refine ⟨T', e, ?_⟩
    have nt : ∀ h, ¬ tr (List.replicate 24 false) h := fun h q => by
      unfold tr at q
      rw [List.getElem?_replicate] at q
      split at q
      · cases q
      · cases q
    have mine := q2 T' rfl
    obtain ⟨A, hA, hb⟩ := bits_of (fun h => tr T' h ∨ ∃ x, R[h]? = some x ∧ (x = (t : Int) ∨ ∃ h', tr T' h' ∧ R[h']? = some x)) H hH
    have inA : ∀ h x, R[h]? = some x → (x = (t : Int) ∨ ∃ h', tr T' h' ∧ R[h']? = some x) → bt A h = true := fun h x hx hs => (hb h).2 ⟨by have := (List.getElem?_eq_some_iff.1 hx).1; omega, .inr ⟨x, hx, hs⟩⟩
    have tin : ∀ h, tr T' h → bt A h = true := fun h ht => by
      obtain ⟨x, d, b1, _⟩ := a4 h ht (nt h)
      exact (hb h).2 ⟨by have := (List.getElem?_eq_some_iff.1 b1).1; omega, .inl ht⟩
    have held : ∀ h x, tr T' h → R[h]? = some x → 0 ≤ x ∧ ∃ d, l[x.toNat]? = some d ∧ ∀ i, bt d.hrs i = true → bt A i = true := fun h x ht hx => by
      obtain ⟨y, d, b1, b2, b3, b4⟩ := a4 h ht (nt h)
      rw [hx] at b1; injection b1 with b1; subst b1
      refine ⟨b2, d, b3, fun i hi => ?_⟩
      rcases b4 i hi with r | r
      · exact tin i r
      · exact inA i x r (.inr ⟨h, ht, hx⟩)
    have self : ∀ i, bt c.hrs i = true → bt A i = true := fun i hi => by
      rcases mine i (Nat.zero_le _) hi with r | r
      · exact tin i r
      · exact inA i _ r (.inl rfl)
    refine ⟨A, hA, fun h ha _ => ?_, inS_iff.2 ⟨c, hc, (subB_iff (okC_24 hH hC hc)).2 self⟩⟩
    rcases ((hb h).1 ha).2 with r | ⟨x, hx, r | ⟨h', r1, r2⟩⟩
    · obtain ⟨x, d, b1, _⟩ := a4 h r (nt h)
      obtain ⟨p1, d, p2, p3⟩ := held h x r b1
      exact ⟨x, d, b1, p1, p2, p3⟩
    · subst r
      exact ⟨_, c, hx, by omega, by rw [Int.toNat_natCast]; exact hc, self⟩
    · obtain ⟨p1, d, p2, p3⟩ := held h' x r1 r2
      exact ⟨x, d, hx, p1, p2, p3⟩
  · right
    refine ⟨R', T', e, a3, a2, fun j => ?_⟩
    have := a4 (j : Int) (by omega)
    unfold cnt
    by_cases q : j = t
    · rw [if_pos q]; rw [if_pos (by omega)] at this; omega
    · rw [if_neg q]; rw [if_neg (by omega)] at this; omega
end Go.K
