/- The reference's plans, hours, level and sharings are the program's: MillShares. No condition. -/
import Derived.Test.YtofnbcfjdngakaaPYe
namespace Go.K
open Go.RowKit
set_option linter.unusedVariables false
set_option linter.unusedSimpArgs false
theorem F81_eq {H : Nat} {l : List Cm} (ok : okM (H : Int) l) {d : List Int} (hd : d.length = l.length) (hb : ∀ x ∈ d, 0 ≤ x ∧ x ≤ 24) {N : Nat} (hN : 60 ≤ N) :
    ∃ P b, F81 N (H : Int) l d = some (P, b) ∧ (b = true ↔ Feas l H d) ∧ (b = true → okH l P ∧ P.length = H ∧ ∀ (j : Nat) x, d[j]? = some x → cnt P j = x) := by
  have hn := ok.2.1
  have hH := ok.1
  have hC := okM_okC ok
  have hH' : H ≤ 24 := by omega
  have hd0 : ∀ x ∈ d, 0 ≤ x := fun x hx => (hb x hx).1
  have loop4 : ∀ (rec2 : List Int → Int → Option (List Int × Bool)) (i x : Nat), d[i]? = some (x : Int) → x ≤ 24 → ∀ (m k : Nat) (R : List Int), k ≤ x → x < m + k → sinv l H d i (k : Int) R →
      (∃ R', sinv l H d i (x : Int) R' ∧ F81l4 (H : Int) l d N rec2 (i : Int) m R (k : Int) = F81j3 rec2 (i : Int) R') ∨ (∃ P, F81l4 (H : Int) l d N rec2 (i : Int) m R (k : Int) = some (P, false) ∧ ¬ Feas l H d) := by
    intro rec2 i x hx hx24 m
    induction m with
    | zero => intro k R h1 h2; omega
    | succ m ih =>
      intro k R h1 h2 hI
      show (∃ R', _ ∧ F81b4 (H : Int) l d N rec2 (i : Int) (F81l4 (H : Int) l d N rec2 (i : Int) m) R (k : Int) = _) ∨ (∃ P, F81b4 (H : Int) l d N rec2 (i : Int) (F81l4 (H : Int) l d N rec2 (i : Int) m) R (k : Int) = _ ∧ _)
      unfold F81b4
      have hi : i < l.length := by have := (List.getElem?_eq_some_iff.1 hx).1; omega
      have hc : l[i]? = some l[i] := List.getElem?_eq_getElem hi
      rw [gdO_pos (by omega), Int.toNat_natCast, hx, bindO_some]
      by_cases hk : k < x
      · rw [if_pos (by omega)]
        rcases give_eq hH' hC hN hI.1 hI.2.1 hc with ⟨T', e, A, hA, hcl, hS⟩ | ⟨R', T', e, b1, b2, b3⟩
        · rw [e, bindS_inl]
          exact .inr ⟨R, rfl, no_feas hH' hC hd hd0 hI hx (by omega) hcl hS⟩
        · rw [e, bindS_inr]
          dsimp only
          unfold F81j5
          rw [ckO_pos (by unfold InR; omega), succ_cast]
          refine ih (k + 1) R' (by omega) (by omega) ⟨b1, b2, fun j z hz => ?_⟩
          have a := hI.2.2 j z hz
          rw [b3 j, a]
          by_cases q : j = i
          · rw [if_neg (by omega), if_pos q, if_pos q, if_neg (by omega), if_pos q]; omega
          · rw [if_neg q]
            by_cases q2 : j < i
            · rw [if_pos q2, if_pos q2]; omega
            · rw [if_neg q2, if_neg q, if_neg q2, if_neg q]; omega
      · have e : k = x := by omega
        subst e
        rw [if_neg (by omega)]
        exact .inl ⟨R, hI, rfl⟩
  have loop2 : ∀ (m i : Nat) (R : List Int), i ≤ d.length → d.length < m + i → sinv l H d i 0 R →
      ∃ P b, F81l2 (H : Int) l d N m R (i : Int) = some (P, b) ∧ (b = true ↔ Feas l H d) ∧ (b = true → okH l P ∧ P.length = H ∧ ∀ (j : Nat) x, d[j]? = some x → cnt P j = x) := by
    intro m
    induction m with
    | zero => intro i R h1 h2; omega
    | succ m ih =>
      intro i R h1 h2 hI
      show ∃ P b, F81b2 (H : Int) l d N (F81l2 (H : Int) l d N m) R (i : Int) = _ ∧ _
      unfold F81b2
      rcases drop_cases d i with ⟨hi, _⟩ | ⟨x, hi, hx, _⟩
      · rw [if_neg (by omega)]
        have all : ∀ (j : Nat) x, d[j]? = some x → cnt R j = x := fun j z hz => by
          have hj := (List.getElem?_eq_some_iff.1 hz).1
          have a := hI.2.2 j z hz
          rw [if_pos (by omega)] at a; exact a
        exact ⟨R, true, rfl, ⟨fun _ => ⟨R, hI.1, hI.2.1, fun j z hz => by rw [all j z hz]; omega⟩, fun _ => rfl⟩, fun _ => ⟨hI.1, hI.2.1, all⟩⟩
      · have hx0 := hb x (List.mem_iff_getElem?.2 ⟨_, hx⟩)
        obtain ⟨n, rfl⟩ : ∃ n : Nat, x = n := ⟨x.toNat, by omega⟩
        rw [if_pos (by omega)]
        rcases loop4 (F81l2 (H : Int) l d N m) i n hx (by omega) N 0 R (by omega) (by omega) hI with ⟨R', hI', e⟩ | ⟨P, e, hno⟩
        · rw [show ((0 : Nat) : Int) = 0 from rfl] at e
          rw [e]
          unfold F81j3
          rw [ckO_pos (by unfold InR; omega), succ_cast]
          refine ih (i + 1) R' hi (by omega) ⟨hI'.1, hI'.2.1, fun j z hz => ?_⟩
          have a := hI'.2.2 j z hz
          rw [a]
          by_cases q : j < i
          · rw [if_pos q, if_pos (by omega)]
          · rw [if_neg q]
            by_cases q2 : j = i
            · subst q2
              rw [hx] at hz; injection hz with hz
              rw [if_pos rfl, if_pos (by omega), hz]
            · rw [if_neg q2, if_neg (by omega)]
              split <;> rfl
        · rw [show ((0 : Nat) : Int) = 0 from rfl] at e
          exact ⟨P, false, e, ⟨fun q => (by cases q), fun q => absurd q hno⟩, fun q => by cases q⟩
  have loop6 : ∀ (m i : Nat), i ≤ H → H < m + i → F81l6 (H : Int) l d N m (List.replicate i (-1)) (i : Int) = F81j1 (H : Int) l d N (List.replicate H (-1)) := by
    intro m
    induction m with
    | zero => intro i h1 h2; omega
    | succ m ih =>
      intro i h1 h2
      show F81b6 (H : Int) l d N (F81l6 (H : Int) l d N m) (List.replicate i (-1)) (i : Int) = _
      unfold F81b6
      by_cases hi : i < H
      · rw [if_pos (by omega), gdO_pos (by rw [List.length_replicate]; omega), ckO_pos (by unfold InR; omega), succ_cast, show List.replicate i (-1 : Int) ++ [-1] = List.replicate (i + 1) (-1) from List.replicate_succ'.symm]
        exact ih (i + 1) (by omega) (by omega)
      · have e : i = H := by omega
        subst e
        rw [if_neg (by omega)]
  have l6 := loop6 N 0 (by omega) (by omega)
  unfold F81
  show ∃ P b, F81l6 (H : Int) l d N N (List.replicate 0 (-1)) ((0 : Nat) : Int) = some (P, b) ∧ _
  rw [l6]
  unfold F81j1
  refine loop2 N 0 _ (by omega) (by omega) ⟨okH_none l H, List.length_replicate, fun j z hz => ?_⟩
  rw [cnt_none, if_neg (by omega)]
  split <;> rfl
theorem F82_eq (h : Int) {l : List Cm} (hn : l.length ≤ 1000) (k : Int) {N : Nat} (hN : 2000 ≤ N) : F82 N h l k = some (l.map fun c => if c.wants < k then c.wants else k) := by
  have loop : ∀ (m i : Nat) (o : List Int), i ≤ l.length → l.length < m + i → o.length = i → F82l1 l k m o (i : Int) = some (o ++ (l.drop i).map fun c => if c.wants < k then c.wants else k) := by
    intro m
    induction m with
    | zero => intro i o h1 h2; omega
    | succ m ih =>
      intro i o h1 h2 h3
      show F82b1 l k (F82l1 l k m) o (i : Int) = _
      unfold F82b1
      rcases drop_cases l i with ⟨hi, e⟩ | ⟨c, hi, hc, e⟩
      · rw [if_neg (by omega), e]; simp
      · rw [if_pos (by omega), gdO_pos (by omega), Int.toNat_natCast, hc, bindO_some, gdO_pos (by omega), ckO_pos (by unfold InR; omega), succ_cast, ih (i + 1) _ hi (by omega) (by simp; omega), e]
        simp
  have := loop N 0 [] (by omega) (by omega) rfl
  rw [List.drop_zero, List.nil_append] at this
  exact this
end Go.K
