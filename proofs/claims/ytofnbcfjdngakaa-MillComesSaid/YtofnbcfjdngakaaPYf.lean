/- The reference's plans, hours, level and sharings are the program's: MillShares. No condition. -/
import Derived.Test.YtofnbcfjdngakaaPYe
namespace Go.K
open Go.RowKit
set_option linter.unusedVariables false
set_option linter.unusedSimpArgs false
theorem F24_ok {h : Int} {l : List Cm} (ok : okM h l) {N : Nat} (hN : 100 ≤ N) : F24 N h l = some 0 := by
  obtain ⟨z, e1, e2, _⟩ := F2324 N h l hN
  rw [F23_ok ok hN] at e1; injection e1 with e1; subst e1; exact e2
theorem F81_eq {H : Nat} {l : List Cm} (ok : okM (H : Int) l) {d : List Int} (hd : d.length = l.length) (hb : ∀ x ∈ d, 0 ≤ x ∧ x ≤ 24) {N : Nat} (hN : 60 ≤ N) :
    ∃ P b, F81 N (H : Int) l d = some (P, b) ∧ (b = true ↔ Feas l H d) ∧ (b = true → okH l P ∧ P.length = H ∧ ∀ (j : Nat) x, d[j]? = some x → cnt P j = x) := by
  have hn := ok.2.1
  have hH := ok.1
  have hC := okM_okC ok
  have hH' : H ≤ 24 := by omega
  have hd0 : ∀ x ∈ d, 0 ≤ x := fun x hx => (hb x hx).1
  have loop4 : ∀ (rec2 : List Int → Int → Option (List Int × Bool)) (i x : Nat), d[i]? = some (x : Int) → x ≤ 24 → ∀ (m k : Nat) (R : List Int), k ≤ x → x < m + k → sinv l H d i (k : Int) R →
      (∃ R', sinv l H d i (x : Int) R' ∧ F81l4 (H : Int) l d N rec2 (i : Int) m R (k : Int) = F81j3 rec2 (i : Int) R') ∨ (∃ P, F81l4 (H : Int) l d N rec2 (i : Int) m R (k : Int) = some (P, false) ∧ ¬ Feas l H d) := by
    intro rec2 i x hx hx24 m
    induction m with
    | zero => intro k R h1 h2; omega
    | succ m ih =>
      intro k R h1 h2 hI
      show (∃ R', _ ∧ F81b4 (H : Int) l d N rec2 (i : Int) (F81l4 (H : Int) l d N rec2 (i : Int) m) R (k : Int) = _) ∨ (∃ P, F81b4 (H : Int) l d N rec2 (i : Int) (F81l4 (H : Int) l d N rec2 (i : Int) m) R (k : Int) = _ ∧ _)
      unfold F81b4
      have hi : i < l.length := by have := (List.getElem?_eq_some_iff.1 hx).1; omega
      have hc : l[i]? = some l[i] := List.getElem?_eq_getElem hi
      rw [gdO_pos (by omega), Int.toNat_natCast, hx, bindO_some]
      by_cases hk : k < x
      · rw [if_pos (by omega)]
        rcases give_eq hH' hC hN hI.1 hI.2.1 hc with ⟨T', e, A, hA, hcl, hS⟩ | ⟨R', T', e, b1, b2, b3⟩
        · rw [e, bindS_inl]
          exact .inr ⟨R, rfl, no_feas hH' hC hd hd0 hI hx (by omega) hcl hS⟩
        · rw [e, bindS_inr]
          dsimp only
          unfold F81j5
          rw [ckO_pos (by unfold InR; omega), succ_cast]
          refine ih (k + 1) R' (by omega) (by omega) ⟨b1, b2, fun j z hz => ?_⟩
          have a := hI.2.2 j z hz
          rw [b3 j, a]
          by_cases q : j = i
          · rw [if_neg (by omega), if_pos q, if_pos q, if_neg (by omega), if_pos q]; omega
          · rw [if_neg q]
            by_cases q2 : j < i
            · rw [if_pos q2, if_pos q2]; omega
            · rw [if_neg q2, if_neg q, if_neg q2, if_neg q]; omega
      · have e : k = x := by omega
        subst e
        rw [if_neg (by omega)]
        exact .inl ⟨R, hI, rfl⟩
  have loop2 : ∀ (m i : Nat) (R : List Int), i ≤ d.length → d.length < m + i → sinv l H d i 0 R →
      ∃ P b, F81l2 (H : Int) l d N m R (i : Int) = some (P, b) ∧ (b = true ↔ Feas l H d) ∧ (b = true → okH l P ∧ P.length = H ∧ ∀ (j : Nat) x, d[j]? = some x → cnt P j = x) := by
    intro m
    induction m with
    | zero => intro i R h1 h2; omega
    | succ m ih =>
      intro i R h1 h2 hI
      show ∃ P b, F81b2 (H : Int) l d N (F81l2 (H : Int) l d N m) R (i : Int) = _ ∧ _
      unfold F81b2
      rcases drop_cases d i with ⟨hi, _⟩ | ⟨x, hi, hx, _⟩
      · rw [if_neg (by omega)]
        have all : ∀ (j : Nat) x, d[j]? = some x → cnt R j = x := fun j z hz => by
          have hj := (List.getElem?_eq_some_iff.1 hz).1
          have a := hI.2.2 j z hz
          rw [if_pos (by omega)] at a; exact a
        exact ⟨R, true, rfl, ⟨fun _ => ⟨R, hI.1, hI.2.1, fun j z hz => by rw [all j z hz]; omega⟩, fun _ => rfl⟩, fun _ => ⟨hI.1, hI.2.1, all⟩⟩
      · have hx0 := hb x (List.mem_iff_getElem?.2 ⟨_, hx⟩)
        obtain ⟨n, rfl⟩ : ∃ n : Nat, x = n := ⟨x.toNat, by omega⟩
        rw [if_pos (by omega)]
        rcases loop4 (F81l2 (H : Int) l d N m) i n hx (by omega) N 0 R (by omega) (by omega) hI with ⟨R', hI', e⟩ | ⟨P, e, hno⟩
        · rw [show ((0 : Nat) : Int) = 0 from rfl] at e
          rw [e]
          unfold F81j3
          rw [ckO_pos (by unfold InR; omega), succ_cast]
          refine ih (i + 1) R' hi (by omega) ⟨hI'.1, hI'.2.1, fun j z hz => ?_⟩
          have a := hI'.2.2 j z hz
          rw [a]
          by_cases q : j < i
          · rw [if_pos q, if_pos (by omega)]
          · rw [if_neg q]
            by_cases q2 : j = i
            · subst q2
              rw [hx] at hz; injection hz with hz
              rw [if_pos rfl, if_pos (by omega), hz]
            · rw [if_neg q2, if_neg (by omega)]
              split <;> rfl
        · rw [show ((0 : Nat) : Int) = 0 from rfl] at e
          exact ⟨P, false, e, ⟨fun q => (by cases q), fun q => absurd q hno⟩, fun q => by cases q⟩
  have loop6 : ∀ (m i : Nat), i ≤ H → H < m + i → F81l6 (H : Int) l d N m (List.replicate i (-1)) (i : Int) = F81j1 (H : Int) l d N (List.replicate H (-1)) := by
    intro m
    induction m with
    | zero => intro i h1 h2; omega
    | succ m ih =>
      intro i h1 h2
      show F81b6 (H : Int) l d N (F81l6 (H : Int) l d N m) (List.replicate i (-1)) (i : Int) = _
      unfold F81b6
      by_cases hi : i < H
      · rw [if_pos (by omega), gdO_pos (by rw [List.length_replicate]; omega), ckO_pos (by unfold InR; omega), succ_cast, show List.replicate i (-1 : Int) ++ [-1] = List.replicate (i + 1) (-1) from List.replicate_succ'.symm]
        exact ih (i + 1) (by omega) (by omega)
      · have e : i = H := by omega
        subst e
        rw [if_neg (by omega)]
  have l6 := loop6 N 0 (by omega) (by omega)
  unfold F81
  show ∃ P b, F81l6 (H : Int) l d N N (List.replicate 0 (-1)) ((0 : Nat) : Int) = some (P, b) ∧ _
  rw [l6]
  unfold F81j1
  refine loop2 N 0 _ (by omega) (by omega) ⟨okH_none l H, List.length_replicate, fun j z hz => ?_⟩
  rw [cnt_none, if_neg (by omega)]
  split <;> rfl
theorem F83_eq {H : Nat} {l : List Cm} (ok : okM (H : Int) l) {N : Nat} (hN : 100 ≤ N) : ∃ P out, F83 N (H : Int) l = some out ∧ filld l H P out := by
  have hn := ok.2.1
  have hH := ok.1
  have hC := okM_okC ok
  have hH' : H ≤ 24 := by omega
  have cw : ∀ c ∈ l, 0 ≤ c.wants ∧ c.wants ≤ 24 := fun c hc => by
    have := ((okM_iff.1 ok).2.2.1 c hc).1
    unfold vCm at this; exact this.2.2
  have hz0 : ∀ x ∈ List.replicate l.length (0 : Int), 0 ≤ x ∧ x ≤ 24 := fun x hx => by have := List.eq_of_mem_replicate hx; omega
  obtain ⟨P0, b, e0, hb, hP⟩ := F81_eq ok (d := List.replicate l.length 0) (by simp) hz0 (N := N) (by omega)
  have hbt : b = true := hb.2 ⟨List.replicate H (-1), okH_none l H, List.length_replicate, fun j x hx => by
    rw [List.getElem?_replicate] at hx
    split at hx
    · injection hx with hx; rw [cnt_none]; omega
    · cases hx⟩
  obtain ⟨p1, p2, p3⟩ := hP hbt
  unfold F83
  rw [gdO_pos (by omega), gdO_pos (show (l.length : Int) ≤ 1000000 by omega), Int.toNat_natCast, e0, bindO_some]
  have loop3 : ∀ (rec1 : List Int → List Int → Int → Option (List Int)) (v : Nat), v < 24 → ∀ (m i : Nat) (R hs : List Int), i ≤ l.length → l.length < m + i → inv l H v i R hs →
      ∃ R' hs', inv l H v l.length R' hs' ∧ F83l3 (H : Int) l N rec1 ((v + 1 : Nat) : Int) m hs R (i : Int) = F83j2 rec1 ((v + 1 : Nat) : Int) hs' R' := by
    intro rec1 v hv m
    induction m with
    | zero => intro i R hs h1 h2; omega
    | succ m ih =>
      intro i R hs h1 h2 hI
      show ∃ R' hs', _ ∧ F83b3 (H : Int) l N rec1 ((v + 1 : Nat) : Int) (F83l3 (H : Int) l N rec1 ((v + 1 : Nat) : Int) m) hs R (i : Int) = _
      unfold F83b3
      rcases drop_cases l i with ⟨hi, e⟩ | ⟨c, hi, hc, e⟩
      · have e : i = l.length := by omega
        subst e
        rw [if_neg (by omega)]
        exact ⟨R, hs, hI, rfl⟩
      · have hx := hI.2.2.2.1 i hi
        have hle := (hI.2.2.2.2 i c hc).2.1
        rw [if_neg (by omega)] at hle
        have h0 := cnt_nn R i
        rw [if_pos (by omega), gdO_pos (by omega), Int.toNat_natCast, hc, bindO_some]
        have skip : (c.wants ≤ (v : Int) ∨ cnt R i < (v : Int)) → ∃ R' hs', inv l H v l.length R' hs' ∧ F83j5 (F83l3 (H : Int) l N rec1 ((v + 1 : Nat) : Int) m) hs R (i : Int) = F83j2 rec1 ((v + 1 : Nat) : Int) hs' R' := fun q => by
          unfold F83j5 F83j4
          rw [ckO_pos (by unfold InR; omega), succ_cast]
          exact ih (i + 1) R hs hi (by omega) (inv_skip hI hc q)
        by_cases hw : c.wants < ((v + 1 : Nat) : Int)
        · rw [if_pos hw]; exact skip (.inl (by omega))
        · rw [if_neg hw, hx, bindO_some, ckO_pos (by unfold InR; omega)]
          by_cases hh : cnt R i = ((v + 1 : Nat) : Int) - 1
          · rw [if_pos hh]
            rcases give_eq hH' hC (N := N) (by omega) hI.1 hI.2.1 hc with ⟨T', e, A, hA, hcl, hS⟩ | ⟨R', T', e, b1, b2, b3⟩
            · rw [e, bindS_inl]
              unfold F83j6 F83j4
              rw [ckO_pos (by unfold InR; omega), succ_cast]
              exact ih (i + 1) R hs hi (by omega) (inv_fail hH' hC hI hc (by omega) hcl hS)
            · rw [e, bindS_inr]
              dsimp only
              unfold F83j7
              rw [ckO_pos (by unfold InR; omega)]
              unfold F83j4
              rw [ckO_pos (by unfold InR; omega), succ_cast, Int.toNat_natCast]
              exact ih (i + 1) R' _ hi (by omega) (inv_more hI hc (by omega) (by omega) b1 b2 b3)
          · rw [if_neg hh]; exact skip (.inr (by omega))
  have loop1 : ∀ (m v : Nat) (R hs : List Int), v ≤ 24 → 24 < m + v → inv l H v 0 R hs → ∃ R' hs', inv l H 24 0 R' hs' ∧ F83l1 (H : Int) l N m hs R ((v + 1 : Nat) : Int) = some hs' := by
    intro m
    induction m with
    | zero => intro v R hs h1 h2; omega
    | succ m ih =>
      intro v R hs h1 h2 hI
      show ∃ R' hs', _ ∧ F83b1 (H : Int) l N (F83l1 (H : Int) l N m) hs R ((v + 1 : Nat) : Int) = _
      unfold F83b1
      by_cases hv : v < 24
      · rw [if_pos (by omega)]
        obtain ⟨R1, hs1, hI1, e⟩ := loop3 (F83l1 (H : Int) l N m) v hv N 0 R hs (by omega) (by omega) hI
        rw [show ((0 : Nat) : Int) = 0 from rfl] at e
        rw [e]
        unfold F83j2
        rw [ckO_pos (by unfold InR; omega), succ_cast]
        exact ih (v + 1) R1 hs1 (by omega) (by omega) (inv_round hI1)
      · have e : v = 24 := by omega
        subst e
        rw [if_neg (by omega)]
        exact ⟨R, hs, hI, rfl⟩
  have hI : inv l H 0 0 P0 (List.replicate l.length 0) := by
    have hc0 : ∀ j, j < l.length → cnt P0 j = 0 := fun j hj => p3 j 0 (by rw [List.getElem?_replicate, if_pos hj])
    refine ⟨p1, p2, List.length_replicate, fun j hj => by rw [List.getElem?_replicate, if_pos hj, hc0 j hj], fun j c hc => ?_⟩
    rw [hc0 j (List.getElem?_eq_some_iff.1 hc).1, if_neg (by omega)]
    exact ⟨(cw c (List.mem_iff_getElem?.2 ⟨_, hc⟩)).1, by omega, .inl rfl⟩
  obtain ⟨R, hs, ⟨h1, h2, h3, h4, h5⟩, e⟩ := loop1 N 0 _ _ (by omega) (by omega) hI
  refine ⟨R, hs, e, h1, h2, h3, h4, fun j c hc => ?_⟩
  obtain ⟨a1, a2, a3⟩ := h5 j c hc
  have hw' := cw c (List.mem_iff_getElem?.2 ⟨_, hc⟩)
  rw [if_neg (by omega)] at a2 a3
  refine ⟨a1, ?_⟩
  rcases a3 with q | q | q
  · exact .inl (by omega)
  · exact .inl q
  · exact .inr q
theorem F83_hs {H : Nat} {l : List Cm} (ok : okM (H : Int) l) {N : Nat} (hN : 100 ≤ N) {R hs : List Int} (f : filld l H R hs) : F83 N (H : Int) l = some hs := by
  obtain ⟨P, out, e, g⟩ := F83_eq ok hN
  rw [e, filld_one f g]
theorem F41_eq (N : Nat) (a b : List Int) (ha : a.length ≤ 1000) (hN : 2000 ≤ N) : ∃ z, F41 N a b = some z ∧ (z = true ↔ a = b) := by
  unfold F41
  by_cases hl : (a.length : Int) = (b.length : Int)
  · rw [if_pos hl]
    have loop : ∀ (m i : Nat), i ≤ a.length → a.length < m + i → ∃ z, F41l1 a b m (i : Int) = some z ∧ (z = true ↔ ∀ j, i ≤ j → a[j]? = b[j]?) := by
      intro m
      induction m with
      | zero => intro i h1 h2; omega
      | succ m ih =>
        intro i h1 h2
        show ∃ z, F41b1 a b (F41l1 a b m) (i : Int) = _ ∧ _
        unfold F41b1
        by_cases hi : i < a.length
        · have hx : a[i]? = some a[i] := List.getElem?_eq_getElem hi
          have hy : b[i]? = some b[i] := List.getElem?_eq_getElem (by omega)
          rw [if_pos (by omega), gdO_pos (by omega), Int.toNat_natCast, hx, bindO_some, hy, bindO_some]
          by_cases e : a[i] = b[i]
          · rw [if_pos e, ckO_pos (by unfold InR; omega), succ_cast]
            obtain ⟨z, a1, a2⟩ := ih (i + 1) hi (by omega)
            refine ⟨z, a1, a2.trans ⟨fun hz j hj => ?_, fun hz j hj => hz j (by omega)⟩⟩
            rcases Nat.eq_or_lt_of_le hj with q | q
            · subst q; rw [hx, hy, e]
            · exact hz j q
          · rw [if_neg e]
            refine ⟨false, rfl, fun q => (by cases q), fun q => ?_⟩
            have := q i (Nat.le_refl _)
            rw [hx, hy] at this; exact absurd (Option.some.inj this) e
        · rw [if_neg (by omega)]
          refine ⟨true, rfl, fun _ j hj => ?_, fun _ => rfl⟩
          rw [List.getElem?_eq_none (by omega), List.getElem?_eq_none (by omega)]
    obtain ⟨z, a1, a2⟩ := loop N 0 (by omega) (by omega)
    exact ⟨z, a1, a2.trans ⟨fun hz => List.ext_getElem? fun j => hz j (Nat.zero_le _), fun hz j _ => by rw [hz]⟩⟩
  · rw [if_neg hl]; exact ⟨false, rfl, fun q => (by cases q), fun q => by rw [q] at hl; exact absurd rfl hl⟩
end Go.K
