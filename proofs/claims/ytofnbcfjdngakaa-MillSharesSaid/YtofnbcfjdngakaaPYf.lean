/- The reference's plans, hours, level and sharings are the program's: MillShares. No condition. -/
import Derived.Test.YtofnbcfjdngakaaPYe
namespace Go.K
open Go.RowKit
set_option linter.unusedVariables false
set_option linter.unusedSimpArgs false
theorem F24_ok {h : Int} {l : List Cm} (ok : okM h l) {N : Nat} (hN : 100 ≤ N) : F24 N h l = some 0 := by
  obtain ⟨z, e1, e2, _⟩ := F2324 N h l hN
  rw [F23_ok ok hN] at e1; injection e1 with e1; subst e1; exact e2
theorem F81_eq {H : Nat} {l : List Cm} (ok : okM (H : Int) l) {d : List Int} (hd : d.length = l.length) (hb : ∀ x ∈ d, 0 ≤ x ∧ x ≤ 24) {N : Nat} (hN : 60 ≤ N) :
    ∃ P b, F81 N (H : Int) l d = some (P, b) ∧ (b = true ↔ Feas l H d) ∧ (b = true → okH l P ∧ P.length = H ∧ ∀ (j : Nat) x, d[j]? = some x → cnt P j = x) := by
  have hn := ok.2.1
  have hH := ok.1
  have hC := okM_okC ok
  have hH' : H ≤ 24 := by omega
  have hd0 : ∀ x ∈ d, 0 ≤ x := fun x hx => (hb x hx).1
  have loop4 : ∀ (rec2 : List Int → Int → Option (List Int × Bool)) (i x : Nat), d[i]? = some (x : Int) → x ≤ 24 → ∀ (m k : Nat) (R : List Int), k ≤ x → x < m + k → sinv l H d i (k : Int) R →
      (∃ R', sinv l H d i (x : Int) R' ∧ F81l4 (H : Int) l d N rec2 (i : Int) m R (k : Int) = F81j3 rec2 (i : Int) R') ∨ (∃ P, F81l4 (H : Int) l d N rec2 (i : Int) m R (k : Int) = some (P, false) ∧ ¬ Feas l H d) := by
    intro rec2 i x hx hx24 m
    induction m with
    | zero => intro k R h1 h2; omega
    | succ m ih =>
      intro k R h1 h2 hI
      show (∃ R', _ ∧ F81b4 (H : Int) l d N rec2 (i : Int) (F81l4 (H : Int) l d N rec2 (i : Int) m) R (k : Int) = _) ∨ (∃ P, F81b4 (H : Int) l d N rec2 (i : Int) (F81l4 (H : Int) l d N rec2 (i : Int) m) R (k : Int) = _ ∧ _)
      unfold F81b4
      have hi : i < l.length := by have := (List.getElem?_eq_some_iff.1 hx).1; omega
      have hc : l[i]? = some l[i] := List.getElem?_eq_getElem hi
      rw [gdO_pos (by omega), Int.toNat_natCast, hx, bindO_some]
      by_cases hk : k < x
      · rw [if_pos (by omega)]
        rcases give_eq hH' hC hN hI.1 hI.2.1 hc with ⟨T', e, A, hA, hcl, hS⟩ | ⟨R', T', e, b1, b2, b3⟩
        · rw [e, bindS_inl]
          exact .inr ⟨R, rfl, no_feas hH' hC hd hd0 hI hx (by omega) hcl hS⟩
        · rw [e, bindS_inr]
          dsimp only
          unfold F81j5
          rw [ckO_pos (by unfold InR; omega), succ_cast]
          refine ih (k + 1) R' (by omega) (by omega) ⟨b1, b2, fun j z hz => ?_⟩
          have a := hI.2.2 j z hz
          rw [b3 j, a]
          by_cases q : j = i
          · rw [if_neg (by omega), if_pos q, if_pos q, if_neg (by omega), if_pos q]; omega
          · rw [if_neg q]
            by_cases q2 : j < i
            · rw [if_pos q2, if_pos q2]; omega
            · rw [if_neg q2, if_neg q, if_neg q2, if_neg q]; omega
      · have e : k = x := by omega
        subst e
        rw [if_neg (by omega)]
        exact .inl ⟨R, hI, rfl⟩
  have loop2 : ∀ (m i : Nat) (R : List Int), i ≤ d.length → d.length < m + i → sinv l H d i 0 R →
      ∃ P b, F81l2 (H : Int) l d N m R (i : Int) = some (P, b) ∧ (b = true ↔ Feas l H d) ∧ (b = true → okH l P ∧ P.length = H ∧ ∀ (j : Nat) x, d[j]? = some x → cnt P j = x) := by
    intro m
    induction m with
    | zero => intro i R h1 h2; omega
    | succ m ih =>
      intro i R h1 h2 hI
      show ∃ P b, F81b2 (H : Int) l d N (F81l2 (H : Int) l d N m) R (i : Int) = _ ∧ _
      unfold F81b2
      rcases drop_cases d i with ⟨hi, _⟩ | ⟨x, hi, hx, _⟩
      · rw [if_neg (by omega)]
        have all : ∀ (j : Nat) x, d[j]? = some x → cnt R j = x := fun j z hz => by
          have hj := (List.getElem?_eq_some_iff.1 hz).1
          have a := hI.2.2 j z hz
          rw [if_pos (by omega)] at a; exact a
        exact ⟨R, true, rfl, ⟨fun _ => ⟨R, hI.1, hI.2.1, fun j z hz => by rw [all j z hz]; omega⟩, fun _ => rfl⟩, fun _ => ⟨hI.1, hI.2.1, all⟩⟩
      · have hx0 := hb x (List.mem_iff_getElem?.2 ⟨_, hx⟩)
        obtain ⟨n, rfl⟩ : ∃ n : Nat, x = n := ⟨x.toNat, by omega⟩
        rw [if_pos (by omega)]
        rcases loop4 (F81l2 (H : Int) l d N m) i n hx (by omega) N 0 R (by omega) (by omega) hI with ⟨R', hI', e⟩ | ⟨P, e, hno⟩
        · rw [show ((0 : Nat) : Int) = 0 from rfl] at e
          rw [e]
          unfold F81j3
          rw [ckO_pos (by unfold InR; omega), succ_cast]
          refine ih (i + 1) R' hi (by omega) ⟨hI'.1, hI'.2.1, fun j z hz => ?_⟩
          have a := hI'.2.2 j z hz
          rw [a]
          by_cases q : j < i
          · rw [if_pos q, if_pos (by omega)]
          · rw [if_neg q]
            by_cases q2 : j = i
            · subst q2
              rw [hx] at hz; injection hz with hz
              rw [if_pos rfl, if_pos (by omega), hz]
            · rw [if_neg q2, if_neg (by omega)]
              split <;> rfl
        · rw [show ((0 : Nat) : Int) = 0 from rfl] at e
          exact ⟨P, false, e, ⟨fun q => (by cases q), fun q => absurd q hno⟩, fun q => by cases q⟩
  have loop6 : ∀ (m i : Nat), i ≤ H → H < m + i → F81l6 (H : Int) l d N m (List.replicate i (-1)) (i : Int) = F81j1 (H : Int) l d N (List.replicate H (-1)) := by
    intro m
    induction m with
    | zero => intro i h1 h2; omega
    | succ m ih =>
      intro i h1 h2
      show F81b6 (H : Int) l d N (F81l6 (H : Int) l d N m) (List.replicate i (-1)) (i : Int) = _
      unfold F81b6
      by_cases hi : i < H
      · rw [if_pos (by omega), gdO_pos (by rw [List.length_replicate]; omega), ckO_pos (by unfold InR; omega), succ_cast, show List.replicate i (-1 : Int) ++ [-1] = List.replicate (i + 1) (-1) from List.replicate_succ'.symm]
        exact ih (i + 1) (by omega) (by omega)
      · have e : i = H := by omega
        subst e
        rw [if_neg (by omega)]
  have l6 := loop6 N 0 (by omega) (by omega)
  unfold F81
  show ∃ P b, F81l6 (H : Int) l d N N (List.replicate 0 (-1)) ((0 : Nat) : Int) = some (P, b) ∧ _
  rw [l6]
  unfold F81j1
  refine loop2 N 0 _ (by omega) (by omega) ⟨okH_none l H, List.length_replicate, fun j z hz => ?_⟩
  rw [cnt_none, if_neg (by omega)]
  split <;> rfl
theorem F83_eq {H : Nat} {l : List Cm} (ok : okM (H : Int) l) {N : Nat} (hN : 100 ≤ N) : ∃ P out, F83 N (H : Int) l = some out ∧ filld l H P out := by
  have hn := ok.2.1
  have hH := ok.1
  have hC := okM_okC ok
  have hH' : H ≤ 24 := by omega
  have cw : ∀ c ∈ l, 0 ≤ c.wants ∧ c.wants ≤ 24 := fun c hc => by
    have := ((okM_iff.1 ok).2.2.1 c hc).1
    unfold vCm at this; exact this.2.2
  have hz0 : ∀ x ∈ List.replicate l.length (0 : Int), 0 ≤ x ∧ x ≤ 24 := fun x hx => by have := List.eq_of_mem_replicate hx; omega
  obtain ⟨P0, b, e0, hb, hP⟩ := F81_eq ok (d := List.replicate l.length 0) (by simp) hz0 (N := N) (by omega)
  have hbt : b = true := hb.2 ⟨List.replicate H (-1), okH_none l H, List.length_replicate, fun j x hx => by
    rw [List.getElem?_replicate] at hx
    split at hx
    · injection hx with hx; rw [cnt_none]; omega
    · cases hx⟩
  obtain ⟨p1, p2, p3⟩ := hP hbt
  unfold F83
  rw [gdO_pos (by omega), gdO_pos (show (l.length : Int) ≤ 1000000 by omega), Int.toNat_natCast, e0, bindO_some]
  have loop3 : ∀ (rec1 : List Int → List Int → Int → Option (List Int)) (v : Nat), v < 24 → ∀ (m i : Nat) (R hs : List Int), i ≤ l.length → l.length < m + i → inv l H v i R hs →
      ∃ R' hs', inv l H v l.length R' hs' ∧ F83l3 (H : Int) l N rec1 ((v + 1 : Nat) : Int) m hs R (i : Int) = F83j2 rec1 ((v + 1 : Nat) : Int) hs' R' := by
    intro rec1 v hv m
    induction m with
    | zero => intro i R hs h1 h2; omega
    | succ m ih =>
      intro i R hs h1 h2 hI
      show ∃ R' hs', _ ∧ F83b3 (H : Int) l N rec1 ((v + 1 : Nat) : Int) (F83l3 (H : Int) l N rec1 ((v + 1 : Nat) : Int) m) hs R (i : Int) = _
      unfold F83b3
      rcases drop_cases l i with ⟨hi, e⟩ | ⟨c, hi, hc, e⟩
      · have e : i = l.length := by omega
        subst e
        rw [if_neg (by omega)]
        exact ⟨R, hs, hI, rfl⟩
      · have hx := hI.2.2.2.1 i hi
        have hle := (hI.2.2.2.2 i c hc).2.1
        rw [if_neg (by omega)] at hle
        have h0 := cnt_nn R i
        rw [if_pos (by omega), gdO_pos (by omega), Int.toNat_natCast, hc, bindO_some]
        have skip : (c.wants ≤ (v : Int) ∨ cnt R i < (v : Int)) → ∃ R' hs', inv l H v l.length R' hs' ∧ F83j5 (F83l3 (H : Int) l N rec1 ((v + 1 : Nat) : Int) m) hs R (i : Int) = F83j2 rec1 ((v + 1 : Nat) : Int) hs' R' := fun q => by
          unfold F83j5 F83j4
          rw [ckO_pos (by unfold InR; omega), succ_cast]
          exact ih (i + 1) R hs hi (by omega) (inv_skip hI hc q)
        by_cases hw : c.wants < ((v + 1 : Nat) : Int)
        · rw [if_pos hw]; exact skip (.inl (by omega))
        · rw [if_neg hw, hx, bindO_some, ckO_pos (by unfold InR; omega)]
          by_cases hh : cnt R i = ((v + 1 : Nat) : Int) - 1
          · rw [if_pos hh]
            rcases give_eq hH' hC (N := N) (by omega) hI.1 hI.2.1 hc with ⟨T', e, A, hA, hcl, hS⟩ | ⟨R', T', e, b1, b2, b3⟩
            · rw [e, bindS_inl]
              unfold F83j6 F83j4
              rw [ckO_pos (by unfold InR; omega), succ_cast]
              exact ih (i + 1) R hs hi (by omega) (inv_fail hH' hC hI hc (by omega) hcl hS)
            · rw [e, bindS_inr]
              dsimp only
              unfold F83j7
              rw [ckO_pos (by unfold InR; omega)]
              unfold F83j4
              rw [ckO_pos (by unfold InR; omega), succ_cast, Int.toNat_natCast]
              exact ih (i + 1) R' _ hi (by omega) (inv_more hI hc (by omega) (by omega) b1 b2 b3)
          · rw [if_neg hh]; exact skip (.inr (by omega))
  have loop1 : ∀ (m v : Nat) (R hs : List Int), v ≤ 24 → 24 < m + v → inv l H v 0 R hs → ∃ R' hs', inv l H 24 0 R' hs' ∧ F83l1 (H : Int) l N m hs R ((v + 1 : Nat) : Int) = some hs' := by
    intro m
    induction m with
    | zero => intro v R hs h1 h2; omega
    | succ m ih =>
      intro v R hs h1 h2 hI
      show ∃ R' hs', _ ∧ F83b1 (H : Int) l N (F83l1 (H : Int) l N m) hs R ((v + 1 : Nat) : Int) = _
      unfold F83b1
      by_cases hv : v < 24
      · rw [if_pos (by omega)]
        obtain ⟨R1, hs1, hI1, e⟩ := loop3 (F83l1 (H : Int) l N m) v hv N 0 R hs (by omega) (by omega) hI
        rw [show ((0 : Nat) : Int) = 0 from rfl] at e
        rw [e]
        unfold F83j2
        rw [ckO_pos (by unfold InR; omega), succ_cast]
        exact ih (v + 1) R1 hs1 (by omega) (by omega) (inv_round hI1)
      · have e : v = 24 := by omega
        subst e
        rw [if_neg (by omega)]
        exact ⟨R, hs, hI, rfl⟩
  have hI : inv l H 0 0 P0 (List.replicate l.length 0) := by
    have hc0 : ∀ j, j < l.length → cnt P0 j = 0 := fun j hj => p3 j 0 (by rw [List.getElem?_replicate, if_pos hj])
    refine ⟨p1, p2, List.length_replicate, fun j hj => by rw [List.getElem?_replicate, if_pos hj, hc0 j hj], fun j c hc => ?_⟩
    rw [hc0 j (List.getElem?_eq_some_iff.1 hc).1, if_neg (by omega)]
    exact ⟨(cw c (List.mem_iff_getElem?.2 ⟨_, hc⟩)).1, by omega, .inl rfl⟩
  obtain ⟨R, hs, ⟨h1, h2, h3, h4, h5⟩, e⟩ := loop1 N 0 _ _ (by omega) (by omega) hI
  refine ⟨R, hs, e, h1, h2, h3, h4, fun j c hc => ?_⟩
  obtain ⟨a1, a2, a3⟩ := h5 j c hc
  have hw' := cw c (List.mem_iff_getElem?.2 ⟨_, hc⟩)
  rw [if_neg (by omega)] at a2 a3
  refine ⟨a1, ?_⟩
  rcases a3 with q | q | q
  · exact .inl (by omega)
  · exact .inl q
  · exact .inr q
theorem F83_hs {H : Nat} {l : List Cm} (ok : okM (H : Int) l) {N : Nat} (hN : 100 ≤ N) {R hs : List Int} (f : filld l H R hs) : F83 N (H : Int) l = some hs := by
  obtain ⟨P, out, e, g⟩ := F83_eq ok hN
  rw [e, filld_one f g]
theorem F82_eq (h : Int) {l : List Cm} (hn : l.length ≤ 1000) (k : Int) {N : Nat} (hN : 2000 ≤ N) : F82 N h l k = some (l.map fun c => if c.wants < k then c.wants else k) := by
  have loop : ∀ (m i : Nat) (o : List Int), i ≤ l.length → l.length < m + i → o.length = i → F82l1 l k m o (i : Int) = some (o ++ (l.drop i).map fun c => if c.wants < k then c.wants else k) := by
    intro m
    induction m with
    | zero => intro i o h1 h2; omega
    | succ m ih =>
      intro i o h1 h2 h3
      show F82b1 l k (F82l1 l k m) o (i : Int) = _
      unfold F82b1
      rcases drop_cases l i with ⟨hi, e⟩ | ⟨c, hi, hc, e⟩
      · rw [if_neg (by omega), e]; simp
      · rw [if_pos (by omega), gdO_pos (by omega), Int.toNat_natCast, hc, bindO_some, gdO_pos (by omega), ckO_pos (by unfold InR; omega), succ_cast, ih (i + 1) _ hi (by omega) (by simp; omega), e]
        simp
  have := loop N 0 [] (by omega) (by omega) rfl
  rw [List.drop_zero, List.nil_append] at this
  exact this
theorem feas_cap {l : List Cm} {H : Nat} {k : Int} : Feas l H (l.map fun c => if c.wants < k then c.wants else k) ↔ FeasL l H k := by
  constructor
  · rintro ⟨Q, a, b, c⟩
    refine ⟨Q, a, b, fun j d hd => ?_⟩
    have := c j (if d.wants < k then d.wants else k) (by rw [List.getElem?_map, hd]; rfl)
    split at this
    · exact .inr this
    · exact .inl this
  · rintro ⟨Q, a, b, c⟩
    refine ⟨Q, a, b, fun j x hx => ?_⟩
    rw [List.getElem?_map] at hx
    cases hd : l[j]? with
    | none => rw [hd] at hx; cases hx
    | some d =>
      rw [hd] at hx
      have hx : (if d.wants < k then d.wants else k) = x := by simpa using hx
      rcases c j d hd with q | q
      · rw [← hx]; split <;> omega
      · rw [← hx]; split <;> omega
theorem F37_eq {H : Nat} {l : List Cm} (ok : okM (H : Int) l) {N : Nat} (hN : 2000 ≤ N) : ∃ L, F37 N (H : Int) l = some (L, 0) ∧ lev l H L := by
  have hn := ok.2.1
  have cw : ∀ c ∈ l, 0 ≤ c.wants ∧ c.wants ≤ 24 := fun c hc => by
    have := ((okM_iff.1 ok).2.2.1 c hc).1
    unfold vCm at this; exact this.2.2
  unfold F37
  rw [F24_ok ok (by omega), bindO_some, if_pos rfl]
  have loop : ∀ (m k : Nat) (best : Int), 1 ≤ k → k ≤ 25 → 25 < m + k → 0 ≤ best → best < k → FeasL l H best → (∀ j : Int, best < j → j < k → ¬ FeasL l H j) → ∃ L, F37l1 (H : Int) l N m best (k : Int) = some (L, 0) ∧ (0 ≤ L ∧ L ≤ 24) ∧ FeasL l H L ∧ ∀ j : Int, L < j → j < 25 → ¬ FeasL l H j := by
    intro m
    induction m with
    | zero => intro k best h1 h2 h3; omega
    | succ m ih =>
      intro k best h1 h2 h3 h4 h5 h6 h7
      show ∃ L, F37b1 (H : Int) l N (F37l1 (H : Int) l N m) best (k : Int) = _ ∧ _
      unfold F37b1
      by_cases hk : k ≤ 24
      · obtain ⟨P, b, e, hb, _⟩ := F81_eq ok (d := l.map fun c => if c.wants < (k : Int) then c.wants else (k : Int)) (by simp) (fun x hx => by
          obtain ⟨c, hc, rfl⟩ := List.mem_map.1 hx
          have := cw c hc
          split <;> omega) (N := N) (by omega)
        rw [if_pos (by omega), F82_eq _ (by omega) _ hN, bindO_some, e, bindO_some]
        rw [feas_cap] at hb
        show ∃ L, F37j3 _ best (k : Int) b = _ ∧ _
        unfold F37j3 F37j2
        by_cases hbt : b = true
        · rw [if_pos hbt, ckO_pos (by unfold InR; omega), succ_cast]
          exact ih (k + 1) (k : Int) (by omega) (by omega) (by omega) (by omega) (by omega) (hb.1 hbt) (fun j a b => by omega)
        · rw [if_neg hbt, ckO_pos (by unfold InR; omega), succ_cast]
          refine ih (k + 1) best (by omega) (by omega) (by omega) h4 (by omega) h6 (fun j a b hf => ?_)
          by_cases e2 : j = (k : Int)
          · subst e2; exact hbt (hb.2 hf)
          · exact h7 j a (by omega) hf
      · have e : k = 25 := by omega
        subst e
        rw [if_neg (by omega)]
        exact ⟨best, rfl, by omega, h6, fun j a b => h7 j a (by omega)⟩
  have f0 : FeasL l H 0 := ⟨List.replicate H (-1), okH_none l H, List.length_replicate, fun j c hc => .inl (by rw [cnt_none]; omega)⟩
  obtain ⟨L, e, a, b, c⟩ := loop N 1 0 (by omega) (by omega) (by omega) (by omega) (by omega) f0 (fun j a b => by omega)
  exact ⟨L, e, a, b, fun hlt => c (L + 1) (by omega) (by omega)⟩
theorem lev_one {l : List Cm} {H : Nat} {L L' : Int} (h : lev l H L) (h' : lev l H L') : L = L' := Int.le_antisymm (lev_le h h' h.2.1) (lev_le h' h h'.2.1)
theorem F62_full {H : Nat} {l : List Cm} (ok : okM (H : Int) l) {N : Nat} (hN : 2000 ≤ N) (s : List Int) : ∃ z, F62 N (H : Int) l s = some z ∧ z.1.length = l.length ∧
    (z.2 = true → s.length = H ∧ ∃ Q : List Int, Q.length = H ∧ (∀ h x, Q[h]? = some x → posS l s h x) ∧ ∀ j, j < l.length → z.1[j]? = some (cnt Q j)) ∧ ((s.length = H ∧ ∃ Q : List Int, Q.length = H ∧ ∀ h x, Q[h]? = some x → posS l s h x) → z.2 = true) := by
  have hH := ok.1
  have hn := ok.2.1
  have hC := okM_okC ok
  unfold F62
  rw [gdO_pos (by omega), gdO_pos (by omega), Int.toNat_natCast]
  by_cases hl : (s.length : Int) = (H : Int)
  · rw [if_pos hl]
    have loop : ∀ (m v : Nat) (u Q : List Int), v ≤ H → H < m + v → u.length = l.length → (∀ j, j < l.length → u[j]? = some (cnt Q j)) → Q.length = v → (∀ h x, Q[h]? = some x → posS l s h x) →
        ∃ z, F62l1 (H : Int) l s N m u (v : Int) = some z ∧ z.1.length = l.length ∧ (z.2 = true → s.length = H ∧ ∃ Q : List Int, Q.length = H ∧ (∀ h x, Q[h]? = some x → posS l s h x) ∧ ∀ j, j < l.length → z.1[j]? = some (cnt Q j)) ∧ ((s.length = H ∧ ∃ Q : List Int, Q.length = H ∧ ∀ h x, Q[h]? = some x → posS l s h x) → z.2 = true) := by
      intro m
      induction m with
      | zero => intro v u Q h1 h2; omega
      | succ m ih =>
        intro v u Q h1 h2 h4 h5 h3 h6
        show ∃ z, F62b1 (H : Int) l s N (F62l1 (H : Int) l s N m) u (v : Int) = _ ∧ _
        unfold F62b1
        by_cases hv : v < H
        · obtain ⟨x, hx⟩ : ∃ x, s[v]? = some x := ⟨_, List.getElem?_eq_getElem (show v < s.length by omega)⟩
          have okQ : ∀ y, posS l s v y → ∀ h z, (Q ++ [y])[h]? = some z → posS l s h z := fun y hy h z hz => by
            rcases Nat.lt_or_ge h v with q | q
            · rw [List.getElem?_append_left (by omega)] at hz; exact h6 h z hz
            · rw [List.getElem?_append_right (by omega)] at hz
              have : h = v := by
                have := (List.getElem?_eq_some_iff.1 hz).1
                simp at this; omega
              subst this
              rw [h3, Nat.sub_self] at hz
              have hz : y = z := by simpa using hz
              subst hz; exact hy
          -- what a sharing says of this hour
          have must : x ≠ 0 → (s.length = H ∧ ∃ Q : List Int, Q.length = H ∧ ∀ h x, Q[h]? = some x → posS l s h x) → ∃ (j : Nat) (c : Cm), l[j]? = some c ∧ c.fam = x ∧ bt c.hrs v = true := fun h0 ⟨_, Q', q1, q2⟩ => by
            obtain ⟨y, hy⟩ : ∃ y, Q'[v]? = some y := ⟨_, List.getElem?_eq_getElem (by omega)⟩
            rcases q2 v y hy with ⟨_, r⟩ | ⟨c, r1, r2, r3, r4⟩
            · rw [hx] at r; injection r with r; exact absurd r h0
            · rw [hx] at r4; injection r4 with r4
              exact ⟨y.toNat, c, r2, r4.symm, r3⟩
          rw [if_pos (by omega), gdO_pos (by omega), Int.toNat_natCast, hx, bindO_some]
          unfold F62j2
          by_cases h0 : x = 0
          · rw [if_pos h0, ckO_pos (by unfold InR; omega), succ_cast]
            exact ih (v + 1) u (Q ++ [-1]) (by omega) (by omega) h4 (fun j hj => by rw [cnt_snoc, if_neg (by omega), Int.add_zero]; exact h5 j hj) (by simp [h3]) (okQ _ (.inl ⟨rfl, by rw [hx, h0]⟩))
          · rw [if_neg h0, F65_eq N _ l x hn (by omega), bindO_some]
            rcases ix_ge x l 0 with q | ⟨j, c, ej, hc, hf⟩
            · rw [q, if_pos (by decide)]
              refine ⟨_, rfl, h4, fun q => (by cases q), fun hq => ?_⟩
              obtain ⟨j, c, r1, r2, _⟩ := must h0 hq
              exact absurd r2 ((ix_none x l 0).1 q c (List.mem_iff_getElem?.2 ⟨j, r1⟩))
            · rw [Nat.zero_add] at ej
              have hj := (List.getElem?_eq_some_iff.1 hc).1
              have hcb := okC_24 (by omega) hC hc
              have hp := p2_ck (k := v) (by omega)
              rw [ej, if_neg (by omega)]
              unfold F94
              rw [if_neg (by omega), gdO_pos (by omega), Int.toNat_natCast, hc, bindO_some, gdO_pos (by omega), Int.toNat_natCast, p2_cast', ckO_pos (by unfold InR; omega), gdO_pos (by omega), gdO_pos (by omega), ckO_pos (by unfold InR; omega)]
              by_cases hb : andI c.hrs ((2 ^ v : Nat) : Int) = 0
              · rw [if_pos hb, bindO_some, if_neg (by decide)]
                refine ⟨_, rfl, h4, fun q => (by cases q), fun hq => ?_⟩
                obtain ⟨j', c', r1, r2, r3⟩ := must h0 hq
                have := fam_one ok hc r1 (r2.trans hf.symm)
                subst this
                rw [hc] at r1; injection r1 with r1; subst r1
                rw [(and_bt2 v).1 hb] at r3; cases r3
              · have hbt : bt c.hrs v = true := by
                  cases e : bt c.hrs v with
                  | true => rfl
                  | false => exact absurd ((and_bt2 v).2 e) hb
                have hcn : cnt Q j ≤ 24 ∧ 0 ≤ cnt Q j := by
                  have := List.count_le_length (a := (j : Int)) (l := Q)
                  unfold cnt; omega
                rw [if_neg hb, bindO_some, if_pos rfl, gdO_pos (by omega), h5 j hj, bindO_some, ckO_pos (by unfold InR; omega), ckO_pos (by unfold InR; omega), succ_cast]
                refine ih (v + 1) _ (Q ++ [(j : Int)]) (by omega) (by omega) (by rw [List.length_set]; exact h4) (fun i hi => ?_) (by simp [h3]) (okQ _ (.inr ⟨c, by omega, by rw [Int.toNat_natCast]; exact hc, hbt, by rw [hx, hf]⟩))
                rw [cnt_snoc, List.getElem?_set]
                by_cases q : j = i
                · subst q; rw [if_pos rfl, if_pos (by omega), if_pos rfl]
                · rw [if_neg q, if_neg (by omega), Int.add_zero]; exact h5 i hi
        · have e : v = H := by omega
          subst e
          rw [if_neg (by omega)]
          exact ⟨_, rfl, h4, fun _ => ⟨by omega, Q, h3, h6, h5⟩, fun _ => rfl⟩
    exact loop N 0 _ [] (by omega) (by omega) List.length_replicate (fun j hj => by rw [List.getElem?_replicate, if_pos hj]; rfl) rfl (fun h x hx => by simp at hx)
  · rw [if_neg hl]; exact ⟨_, rfl, List.length_replicate, fun q => (by cases q), fun q => absurd q.1 (by omega)⟩
theorem F41_eq (N : Nat) (a b : List Int) (ha : a.length ≤ 1000) (hN : 2000 ≤ N) : ∃ z, F41 N a b = some z ∧ (z = true ↔ a = b) := by
  unfold F41
  by_cases hl : (a.length : Int) = (b.length : Int)
  · rw [if_pos hl]
    have loop : ∀ (m i : Nat), i ≤ a.length → a.length < m + i → ∃ z, F41l1 a b m (i : Int) = some z ∧ (z = true ↔ ∀ j, i ≤ j → a[j]? = b[j]?) := by
      intro m
      induction m with
      | zero => intro i h1 h2; omega
      | succ m ih =>
        intro i h1 h2
        show ∃ z, F41b1 a b (F41l1 a b m) (i : Int) = _ ∧ _
        unfold F41b1
        by_cases hi : i < a.length
        · have hx : a[i]? = some a[i] := List.getElem?_eq_getElem hi
          have hy : b[i]? = some b[i] := List.getElem?_eq_getElem (by omega)
          rw [if_pos (by omega), gdO_pos (by omega), Int.toNat_natCast, hx, bindO_some, hy, bindO_some]
          by_cases e : a[i] = b[i]
          · rw [if_pos e, ckO_pos (by unfold InR; omega), succ_cast]
            obtain ⟨z, a1, a2⟩ := ih (i + 1) hi (by omega)
            refine ⟨z, a1, a2.trans ⟨fun hz j hj => ?_, fun hz j hj => hz j (by omega)⟩⟩
            rcases Nat.eq_or_lt_of_le hj with q | q
            · subst q; rw [hx, hy, e]
            · exact hz j q
          · rw [if_neg e]
            refine ⟨false, rfl, fun q => (by cases q), fun q => ?_⟩
            have := q i (Nat.le_refl _)
            rw [hx, hy] at this; exact absurd (Option.some.inj this) e
        · rw [if_neg (by omega)]
          refine ⟨true, rfl, fun _ j hj => ?_, fun _ => rfl⟩
          rw [List.getElem?_eq_none (by omega), List.getElem?_eq_none (by omega)]
    obtain ⟨z, a1, a2⟩ := loop N 0 (by omega) (by omega)
    exact ⟨z, a1, a2.trans ⟨fun hz => List.ext_getElem? fun j => hz j (Nat.zero_le _), fun hz j _ => by rw [hz]⟩⟩
  · rw [if_neg hl]; exact ⟨false, rfl, fun q => (by cases q), fun q => by rw [q] at hl; exact absurd rfl hl⟩
/-- CheckShare of both -/
theorem F4243 {H : Nat} {l : List Cm} (ok : okM (H : Int) l) {N : Nat} (hN : 2000 ≤ N) {R hs : List Int} (e : F80 N (H : Int) l = some ((H : Int), R, hs)) (f : filld l H R hs) (s : List Int) :
    ∃ z, F42 N (H : Int) l s = some z ∧ F43 N (H : Int) l s = some z ∧ (z = 0 ↔ ∃ Q, shr l H hs s Q) := by
  obtain ⟨z, ez, h0, hz⟩ := F42_eq ok hN e s
  have hiff : z = 0 ↔ ∃ Q, shr l H hs s Q := ⟨h0, fun ⟨Q, hq⟩ => by
    have := F42_ok ok hN e f.2.2.1 hq
    rw [ez] at this; exact Option.some.inj this⟩
  refine ⟨z, ez, ?_, hiff⟩
  obtain ⟨w, ew, wl, w1, w2⟩ := F62_full ok hN s
  obtain ⟨y, ey, hy⟩ := F41_eq N w.1 hs (by have := ok.2.1; omega) hN
  have hn := ok.2.1
  have f3 := f.2.2.1
  unfold F43
  rw [F24_ok ok (by omega), bindO_some, if_pos rfl, ew, bindO_some]
  by_cases hw : w.2 = true
  · obtain ⟨sl, Q, q1, q2, q3⟩ := w1 hw
    rw [if_pos hw, F83_hs ok (by omega) f, bindO_some, ey, bindO_some]
    by_cases hyt : y = true
    · have : z = 0 := hiff.2 ⟨Q, q1, sl, q2, fun j hj => by rw [← hy.1 hyt]; exact q3 j hj⟩
      rw [if_pos hyt, this]
    · have : z ≠ 0 := fun q => hyt (hy.2 (by
        obtain ⟨Q', a1, a2, a3, a4⟩ := hiff.1 q
        refine List.ext_getElem? fun j => ?_
        by_cases hj : j < l.length
        · have hc : l[j]? = some l[j] := List.getElem?_eq_getElem hj
          rw [q3 j hj, a4 j hj, ← shr_count ok q1 sl q2 hc, ← shr_count ok a1 a2 a3 hc]
        · rw [List.getElem?_eq_none (by omega), List.getElem?_eq_none (by omega)]))
      rw [if_neg hyt]
      congr 1; omega
  · have : z ≠ 0 := fun q => hw (w2 (by
      obtain ⟨Q', a1, a2, a3, _⟩ := hiff.1 q
      exact ⟨a2, Q', a1, a3⟩))
    rw [if_neg hw]
    congr 1; omega
theorem shares_any (N : Nat) (hN : 2100 ≤ N) (hs0 : F25 N = some true) (h : Int) (l : List Cm) (s : List Int) : F5 N h l s = some true := by
  obtain ⟨z, e23, e24, hz, ok⟩ := F2324 N h l (by omega)
  obtain ⟨y0, ey0, hy0⟩ := F41_eq N [] [] (by simp) (by omega)
  rcases hz with rfl | rfl
  · have ok := ok rfl
    obtain ⟨H, rfl, _⟩ := okM_C ok
    have hn := ok.2.1
    obtain ⟨R, hs, e1, f⟩ := F80_eq ok (N := N) (by omega)
    rw [Int.toNat_natCast] at f
    obtain ⟨L, eL, hL⟩ := F36_eq ok (N := N) (by omega)
    rw [Int.toNat_natCast] at hL
    obtain ⟨L', eL', hL'⟩ := F37_eq ok (N := N) (by omega)
    have := lev_one hL hL'
    subst this
    obtain ⟨s0, es, hsh⟩ := F40_eq ok (N := N) (by omega) e1 f
    obtain ⟨a, ea1, ea2, _⟩ := F4243 ok (N := N) (by omega) e1 f s
    obtain ⟨b, eb1, eb2, hb⟩ := F4243 ok (N := N) (by omega) e1 f s0
    have hb0 : b = 0 := hb.2 ⟨R, hsh⟩
    subst hb0
    have e39 : F39 N (H : Int) l = some (hs, 0) := by
      unfold F39
      rw [F24_ok ok (by omega), bindO_some, if_pos rfl, F83_hs ok (by omega) f, bindO_some]
    obtain ⟨y, ey, hy⟩ := F41_eq N hs hs (by have := f.2.2.1; omega) (by omega)
    have ey' : F41 N (hs, (0 : Int)).1 (hs, (0 : Int)).1 = some y := ey
    have eb2' : F43 N (H : Int) l (s0, (0 : Int)).1 = some 0 := eb2
    unfold F5
    rw [eL, bindO_some, eL', bindO_some, F80_hs ok (by omega) e1, bindO_some, e39, bindO_some, es, bindO_some, if_pos rfl, if_pos rfl, ey', bindO_some, if_pos (hy.2 rfl), if_pos rfl, if_pos rfl, ea1, bindO_some, ea2, bindO_some, if_pos rfl, if_pos rfl, eb2', bindO_some, if_pos rfl, hs0]
    rfl
  · have b36 : F36 N h l = some (0, 52) := by unfold F36; rw [e23, bindO_some, if_neg (by decide)]
    have b37 : F37 N h l = some (0, 52) := by unfold F37; rw [e24, bindO_some, if_neg (by decide)]
    have b38 : F38 N h l = some ([], 52) := by unfold F38; rw [e23, bindO_some, if_neg (by decide)]
    have b39 : F39 N h l = some ([], 52) := by unfold F39; rw [e24, bindO_some, if_neg (by decide)]
    have b40 : F40 N h l = some ([], 52) := by unfold F40; rw [e23, bindO_some, if_neg (by decide)]
    have b42 : F42 N h l s = some 52 := by unfold F42; rw [e23, bindO_some, if_neg (by decide)]
    have b43 : F43 N h l s = some 52 := by unfold F43; rw [e24, bindO_some, if_neg (by decide)]
    have ey0' : F41 N (([] : List Int), (52 : Int)).1 (([] : List Int), (52 : Int)).1 = some y0 := ey0
    unfold F5
    rw [b36, bindO_some, b37, bindO_some, b38, bindO_some, b39, bindO_some, b40, bindO_some, if_pos rfl, if_pos rfl, ey0', bindO_some, if_pos (hy0.2 rfl), if_pos rfl, if_pos rfl, b42, bindO_some, b43, bindO_some, if_pos rfl, if_neg (by decide), if_pos (by decide), hs0]
    rfl
theorem shares5 (h : Int) (l : List Cm) (s : List Int) : F5 (0 + 2100) h l s = some true := shares_any _ (by omega) (sane5 _) h l s
end Go.K
