/- Crowds: what Crowd and Unserved return is accepted, and no crowd is accepted of demands that can be served. No condition. -/
import Derived.Test.YtofnbcfjdngakaaPYb
namespace Go.K
open Go.RowKit
set_option linter.unusedVariables false
set_option linter.unusedSimpArgs false
theorem andNot_sub {x A : Int} (hx : 0 ≤ x ∧ x < 16777216) (hA : 0 ≤ A ∧ A < 16777216) : andNotI x A = 0 ↔ subB x A = true := by
  rw [subB_iff hx]
  unfold andNotI bt
  have hlt : A.toNat < 2 ^ 64 := by
    have : (2 : Nat) ^ 64 = 18446744073709551616 := by decide
    omega
  have e : 18446744073709551615 - A.toNat = 2 ^ 64 - (A.toNat + 1) := by
    have : (2 : Nat) ^ 64 = 18446744073709551616 := by decide
    omega
  rw [e]
  constructor
  · intro q h hb
    have q2 : x.toNat &&& (2 ^ 64 - (A.toNat + 1)) = 0 := by omega
    have q3 := congrArg (fun z => Nat.testBit z h) q2
    simp only [Nat.testBit_and, Nat.zero_testBit] at q3
    rw [Nat.testBit_two_pow_sub_succ hlt, hb] at q3
    have h24 : h < 24 := bt_lt (x := x) (H := 24) ⟨hx.1, show x < 16777216 from hx.2⟩ hb
    rw [decide_eq_true (show h < 64 by omega)] at q3
    cases hA2 : A.toNat.testBit h with
    | true => rfl
    | false => rw [hA2] at q3; cases q3
  · intro q
    have : x.toNat &&& (2 ^ 64 - (A.toNat + 1)) = 0 := Nat.eq_of_testBit_eq fun i => by
      rw [Nat.testBit_and, Nat.zero_testBit, Nat.testBit_two_pow_sub_succ hlt]
      cases hx2 : x.toNat.testBit i with
      | false => rfl
      | true => rw [q i hx2]; simp
    rw [this]; rfl
def nb (U : Int) : Nat := (List.range' 0 24).countP (bt U)
theorem F108_eq {U : Int} (hU : 0 ≤ U ∧ U < 16777216) {N : Nat} (hN : 100 ≤ N) : F108 N U = some (nb U : Int) := by
  have loop : ∀ (m v n : Nat), v ≤ 24 → 24 < m + v → n ≤ v → F108l1 U m (n : Int) (v : Int) = some (((n + (List.range' v (24 - v)).countP (bt U) : Nat)) : Int) := by
    intro m
    induction m with
    | zero => intro v n g1 g2; omega
    | succ m ih =>
      intro v n g1 g2 g3
      show F108b1 U (F108l1 U m) (n : Int) (v : Int) = _
      unfold F108b1
      by_cases hv : v < 24
      · obtain ⟨w, hw⟩ : ∃ w, 24 - v = w + 1 := ⟨24 - v - 1, by omega⟩
        have hw2 : 24 - (v + 1) = w := by omega
        rw [if_pos (by omega), F92_eq (by omega) (by omega), bindO_some, Int.toNat_natCast, hw, List.range'_succ, List.countP_cons]
        unfold F108j2
        cases e : bt U v with
        | true =>
          rw [if_pos rfl, if_pos rfl, ckO_pos (by unfold InR; omega), ckO_pos (by unfold InR; omega), succ_cast, succ_cast, ih (v + 1) (n + 1) (by omega) (by omega) (by omega), hw2, show n + 1 + List.countP (bt U) (List.range' (v + 1) w) = n + (List.countP (bt U) (List.range' (v + 1) w) + 1) by omega]
        | false =>
          rw [if_neg (by decide), if_neg (by decide), ckO_pos (by unfold InR; omega), succ_cast, ih (v + 1) n (by omega) (by omega) (by omega), hw2]
          rfl
      · have e : v = 24 := by omega
        subst e
        rw [if_neg (by omega)]
        rfl
  have := loop N 0 0 (by omega) (by omega) (by omega)
  rw [Nat.zero_add] at this
  exact this
theorem F109_eq {d : List Int} (hd : d.length ≤ 1000) (hb : ∀ x ∈ d, 0 ≤ x ∧ x ≤ 24) {N : Nat} (hN : 2000 ≤ N) : F109 N d = some d.sum := by
  have loop : ∀ (m i : Nat) (t : Int), i ≤ d.length → d.length < m + i → 0 ≤ t → t ≤ 24 * i → F109l1 d m t (i : Int) = some (t + (d.drop i).sum) := by
    intro m
    induction m with
    | zero => intro i t g1 g2; omega
    | succ m ih =>
      intro i t g1 g2 g3 g4
      show F109b1 d (F109l1 d m) t (i : Int) = _
      unfold F109b1
      rcases drop_cases d i with ⟨hi, e⟩ | ⟨x, hi, hx, e⟩
      · rw [if_neg (by omega), e, List.sum_nil, Int.add_zero]
      · have := hb x (List.mem_iff_getElem?.2 ⟨i, hx⟩)
        rw [if_pos (by omega), gdO_pos (by omega), Int.toNat_natCast, hx, bindO_some, ckO_pos (by unfold InR; omega), ckO_pos (by unfold InR; omega), succ_cast, ih (i + 1) (t + x) hi (by omega) (by omega) (by omega), e, List.sum_cons, Int.add_assoc]
  have := loop N 0 0 (by omega) (by omega) (by omega) (by omega)
  rw [List.drop_zero, Int.zero_add] at this
  exact this
def dF (d : List Int) (i : Nat) : Int := (d[i]?).getD 0
def acc (l : List Cm) (d : List Int) : List Int → Int → Int → List Int → Bool
  | [], U, last, dm => decide ((nb U : Int) < dm.sum)
  | x :: r, U, last, dm => if ixOf x l 0 = -1 then false else if x ≤ last then false else match l[(ixOf x l 0).toNat]? with
    | some c => acc l d r (orI U c.hrs) x (dm ++ [dF d (ixOf x l 0).toNat])
    | none => false
theorem or_bd2 {a b : Int} (ha : 0 ≤ a ∧ a < 16777216) (hb : 0 ≤ b ∧ b < 16777216) : 0 ≤ orI a b ∧ orI a b < 16777216 := by
  unfold orI
  have e : (2 : Nat) ^ 24 = 16777216 := by decide
  have h3 := Nat.or_lt_two_pow (show a.toNat < 2 ^ 24 by omega) (show b.toNat < 2 ^ 24 by omega)
  omega
theorem F90_eq {H : Nat} {l : List Cm} (ok : okM (H : Int) l) {d : List Int} (hd : d.length = l.length) (hb : ∀ x ∈ d, 0 ≤ x ∧ x ≤ 24) (fs : List Int) {N : Nat} (hN : 2000 ≤ N) : F90 N (H : Int) l d fs = some (acc l d fs 0 0 []) := by
  have hn := ok.2.1
  have hH := ok.1
  have loop : ∀ (m k : Nat) (U last : Int) (dm : List Int), k ≤ fs.length → 100 < m + k → dm.length = k → k ≤ 99 → last ≤ 99 → (k : Int) ≤ last → (0 ≤ U ∧ U < 16777216) → (∀ x ∈ dm, 0 ≤ x ∧ x ≤ 24) →
      F90l2 (H : Int) l d fs N m U last dm (k : Int) = some (acc l d (fs.drop k) U last dm) := by
    intro m
    induction m with
    | zero => intro k U last dm g1 g2 g3 g4; omega
    | succ m ih =>
      intro k U last dm g1 g2 g3 g4 g5 g6 hU hdm
      show F90b2 (H : Int) l d fs N (F90l2 (H : Int) l d fs N m) U last dm (k : Int) = _
      unfold F90b2
      rcases drop_cases fs k with ⟨hk, e⟩ | ⟨x, hk, hx, e⟩
      · rw [if_neg (by omega), e]
        unfold F90j1 acc
        rw [F108_eq hU (by omega), bindO_some, F109_eq (by omega) hdm hN, bindO_some]
        by_cases q : (nb U : Int) < dm.sum
        · rw [if_pos q, decide_eq_true q]
        · rw [if_neg q, decide_eq_false q]
      · rw [if_pos (by omega), gdO_pos (by omega), Int.toNat_natCast, hx, bindO_some, F98_eq N _ l x hn (by omega), bindO_some, e]
        unfold acc
        rcases ix_ge x l 0 with q | ⟨j, c, ej, hc, hf⟩
        · rw [if_pos q, if_pos q]
        · rw [Nat.zero_add] at ej
          rw [ej]
          have hj1 : ¬ ((j : Nat) : Int) = -1 := by omega
          simp only [if_neg hj1]
          by_cases hle : x ≤ last
          · simp only [if_pos hle]
          · have hj : j < l.length := (List.getElem?_eq_some_iff.1 hc).1
            have hvc := ((okM_iff.1 ok).2.2.1 c (List.mem_iff_getElem?.2 ⟨j, hc⟩)).1
            unfold vCm at hvc
            obtain ⟨y, hy⟩ : ∃ y, d[j]? = some y := ⟨_, List.getElem?_eq_getElem (by omega)⟩
            have hyb := hb y (List.mem_iff_getElem?.2 ⟨j, hy⟩)
            simp only [if_neg hle]
            rw [gdO_pos (by omega), Int.toNat_natCast, hc, bindO_some, gdO_pos (by omega), gdO_pos (by omega), ckO_pos (by unfold InR; omega), ckO_pos (by unfold InR; omega), hy, bindO_some, gdO_pos (by omega), ckO_pos (by unfold InR; omega), succ_cast]
            have hyd : dF d j = y := by unfold dF; rw [hy]; rfl
            show F90l2 (H : Int) l d fs N m (orI U c.hrs) x (dm ++ [y]) ((k + 1 : Nat) : Int) = some (acc l d (fs.drop (k + 1)) (orI U c.hrs) x (dm ++ [dF d j]))
            rw [hyd]
            refine ih (k + 1) _ x _ hk (by omega) (by simp [g3]) (by omega) (by omega) (by omega) (or_bd2 hU (by omega)) fun z hz => ?_
            rcases List.mem_append.1 hz with hz | hz
            · exact hdm z hz
            · rw [List.mem_singleton.1 hz]; exact hyb
  exact loop N 0 0 0 [] (by omega) (by omega) rfl (by omega) (by omega) (by omega) (by omega) (fun x hx => by cases hx)
theorem sumS_ins {S S' : Nat → Bool} {f : Nat → Int} {j : Nat} : ∀ n, S j = false → (∀ i, S' i = (S i || decide (i = j))) → sumS S' f n = sumS S f n + if j < n then f j else 0
  | 0, _, _ => by simp [sumS]
  | n + 1, h1, h2 => by
    have ih := sumS_ins (S := S) (S' := S') (f := f) (j := j) n h1 h2
    unfold sumS
    rw [ih, h2 n]
    by_cases e : n = j
    · subst e
      rw [h1, if_neg (Nat.lt_irrefl _), if_pos (Nat.lt_succ_self _)]
      simp
    · rw [decide_eq_false e, Bool.or_false]
      by_cases q : j < n
      · have q2 : j < n + 1 := by omega
        simp only [if_pos q, if_pos q2]; omega
      · have q2 : ¬ j < n + 1 := by omega
        simp only [if_neg q, if_neg q2]; omega
theorem sumS_false {f : Nat → Int} : ∀ n, sumS (fun _ => false) f n = 0
  | 0 => rfl
  | n + 1 => by unfold sumS; rw [sumS_false n]; rfl
/-- what is taken in so far -/
def took (l : List Cm) (d : List Int) (U last : Int) (dm : List Int) (S : Nat → Bool) : Prop := (∀ i, S i = true → ∃ c, l[i]? = some c ∧ c.fam ≤ last) ∧ dm.sum = sumS S (dF d) l.length ∧ ∀ h, bt U h = true ↔ ∃ i c, S i = true ∧ l[i]? = some c ∧ bt c.hrs h = true
theorem took0 (l : List Cm) (d : List Int) : took l d 0 0 [] (fun _ => false) :=
  ⟨fun i hi => (by cases hi), (by rw [sumS_false]; rfl), fun h => ⟨fun q => (by rw [bt0] at q; cases q), fun ⟨i, c, q, _⟩ => (by cases q)⟩⟩
theorem took_more {l : List Cm} {d : List Int} {U last : Int} {dm : List Int} {S : Nat → Bool} (hT : took l d U last dm S) {j : Nat} {c : Cm} (hc : l[j]? = some c) (hl : last < c.fam) : took l d (orI U c.hrs) c.fam (dm ++ [dF d j]) (fun i => S i || decide (i = j)) := by
  obtain ⟨h1, h2, h3⟩ := hT
  have hj : j < l.length := (List.getElem?_eq_some_iff.1 hc).1
  have hS : S j = false := by
    cases e : S j with
    | false => rfl
    | true =>
      obtain ⟨c', hc', hl'⟩ := h1 j e
      rw [hc] at hc'; injection hc' with q; subst q; omega
  refine ⟨fun i hi => ?_, ?_, fun h => ?_⟩
  · by_cases e : i = j
    · subst e; exact ⟨c, hc, Int.le_refl _⟩
    · have hi' : S i = true := by simpa [e] using hi
      obtain ⟨c', hc', hl'⟩ := h1 i hi'
      exact ⟨c', hc', by omega⟩
  · rw [sumS_ins (S := S) (j := j) l.length hS (fun _ => rfl), if_pos hj, List.sum_append, h2]
    simp
  · have e : bt (orI U c.hrs) h = (bt U h || bt c.hrs h) := by unfold bt orI; rw [Int.toNat_natCast, Nat.testBit_or]
    rw [e, Bool.or_eq_true, h3 h]
    constructor
    · rintro (⟨i, c', q1, q2, q3⟩ | q)
      · exact ⟨i, c', by simp [q1], q2, q3⟩
      · exact ⟨j, c, by simp, hc, q⟩
    · rintro ⟨i, c', q1, q2, q3⟩
      by_cases e : i = j
      · subst e; rw [hc] at q2; injection q2 with q2; subst q2; exact .inr q3
      · exact .inl ⟨i, c', by simpa [e] using q1, q2, q3⟩
theorem acc_run {h : Int} {l : List Cm} (ok : okM h l) {d : List Int} : ∀ (fs : List Int) (U last : Int) (dm : List Int) (S : Nat → Bool), took l d U last dm S → (∀ x ∈ fs, last < x) → fs.Pairwise (· < ·) → (∀ x ∈ fs, ∃ c ∈ l, c.fam = x) →
    ∃ U' last' dm' S', took l d U' last' dm' S' ∧ acc l d fs U last dm = decide ((nb U' : Int) < sumS S' (dF d) l.length) ∧ ∀ i, S' i = true ↔ S i = true ∨ ∃ c, l[i]? = some c ∧ c.fam ∈ fs
  | [], U, last, dm, S, hT, _, _, _ => ⟨U, last, dm, S, hT, by unfold acc; rw [hT.2.1], fun i => ⟨.inl, fun q => q.elim id fun ⟨c, _, r⟩ => by cases r⟩⟩
  | x :: r, U, last, dm, S, hT, h1, h2, h3 => by
    obtain ⟨c, hcm, hf⟩ := h3 x (List.mem_cons_self ..)
    obtain ⟨j, hc⟩ := List.mem_iff_getElem?.1 hcm
    subst hf
    have hlt := h1 c.fam (List.mem_cons_self ..)
    obtain ⟨p1, p2⟩ := List.pairwise_cons.1 h2
    obtain ⟨U', last', dm', S', a1, a2, a3⟩ := acc_run ok r _ _ _ _ (took_more (d := d) hT hc hlt) p1 p2 fun x hx => h3 x (List.mem_cons_of_mem _ hx)
    refine ⟨U', last', dm', S', a1, ?_, fun i => (a3 i).trans ⟨fun q => ?_, fun q => ?_⟩⟩
    · rw [← a2]
      conv => lhs; unfold acc
      rw [ix_at ok hc, if_neg (by omega), if_neg (by omega), Int.toNat_natCast, hc]
    · rcases q with q | ⟨c', r1, r2⟩
      · by_cases e : i = j
        · subst e; exact .inr ⟨c, hc, List.mem_cons_self ..⟩
        · exact .inl (by simpa [e] using q)
      · exact .inr ⟨c', r1, List.mem_cons_of_mem _ r2⟩
    · rcases q with q | ⟨c', r1, r2⟩
      · exact .inl (by simp [q])
      · rcases List.mem_cons.1 r2 with e | e
        · have := fam_one ok hc r1 e
          subst this; exact .inl (by simp)
        · exact .inr ⟨c', r1, e⟩
theorem bits_countP {b : Nat → Bool} {p : Int → Bool} : ∀ (R : List Int) (s : Nat), (∀ (h : Nat) x, R[h]? = some x → b (s + h) = true → p x = true) → (List.range' s R.length).countP b ≤ R.countP p
  | [], _, _ => by simp
  | x :: R, s, h => by
    have ih := bits_countP (b := b) (p := p) R (s + 1) fun i y hi => by have := h (i + 1) y (by simpa using hi); rw [show s + 1 + i = s + (i + 1) by omega]; exact this
    have h0 := h 0 x rfl
    rw [Nat.add_zero] at h0
    rw [List.countP_cons, List.length_cons, List.range'_succ, List.countP_cons]
    by_cases e : b s = true
    · rw [if_pos e, if_pos (h0 e)]; omega
    · rw [if_neg e]; omega
theorem range_split (b : Nat → Bool) {H : Nat} (hH : H ≤ 24) : (List.range' 0 24).countP b = (List.range' 0 H).countP b + (List.range' H (24 - H)).countP b := by
  have : List.range' 0 24 = List.range' 0 H ++ List.range' (0 + H) (24 - H) := by rw [List.range'_append_1]; congr 1; omega
  rw [this, List.countP_append, Nat.zero_add]
theorem acc_yes {H : Nat} {l : List Cm} (ok : okM (H : Int) l) {d : List Int} (hd : d.length = l.length) (hd0 : ∀ x ∈ d, 0 ≤ x) {R : List Int} {A : Int} (hl : R.length = H) (hA : 0 ≤ A ∧ A < 16777216) (hcl : clo l 0 R A)
    (hlt : sumS (inS l A) (cnt R) l.length < sumS (inS l A) (dF d) l.length) {fs : List Int} (hr : fs.Pairwise (· < ·)) (hm : ∀ x, x ∈ fs ↔ ∃ (j : Nat) (c : Cm) (y : Int), l[j]? = some c ∧ d[j]? = some y ∧ 0 < y ∧ subB c.hrs A = true ∧ c.fam = x) : acc l d fs 0 0 [] = true := by
  have hH := ok.1
  have hH' : H ≤ 24 := by omega
  have hC := okM_okC ok
  have t0 := took0 l d
  obtain ⟨U, last, dm, S, ⟨a1, a2, a3⟩, e, hS⟩ := acc_run ok (d := d) fs 0 0 [] _ t0 (fun x hx => by
      obtain ⟨j, c, y, r1, _, _, _, r5⟩ := (hm x).1 hx
      have := ((okM_iff.1 ok).2.2.1 c (List.mem_iff_getElem?.2 ⟨j, r1⟩)).1.1.1
      omega) hr (fun x hx => by
      obtain ⟨j, c, y, r1, _, _, _, r5⟩ := (hm x).1 hx
      exact ⟨c, List.mem_iff_getElem?.2 ⟨j, r1⟩, r5⟩)
  rw [e]
  refine decide_eq_true ?_
  -- the hours of these are among A
  have n1 : nb U ≤ nb A := List.countP_mono_left fun h _ hb => by
    obtain ⟨i, c, q1, q2, q3⟩ := (a3 h).1 hb
    rcases (hS i).1 q1 with q | ⟨c', r1, r2⟩
    · cases q
    · rw [q2] at r1; injection r1 with r1; subst r1
      obtain ⟨j, c2, y, s1, s2, s3, s4, s5⟩ := (hm _).1 r2
      have := fam_one ok s1 q2 s5.symm
      subst this
      rw [q2] at s1; injection s1 with s1; subst s1
      exact (subB_iff (okC_24 hH' hC q2)).1 s4 h q3
  have n2 : (nb A : Int) ≤ sumS (inS l A) (cnt R) l.length := by
    rw [sumS_cnt]
    have b1 := bits_countP (b := bt A) (p := fun x => decide (0 ≤ x ∧ x < (l.length : Int) ∧ inS l A x.toNat = true)) R 0 fun h x hx hb => by
      rw [Nat.zero_add] at hb
      obtain ⟨x', c, r1, r2, r3, r4⟩ := hcl h hb (bt0 h)
      rw [hx] at r1; injection r1 with r1; subst r1
      have := (List.getElem?_eq_some_iff.1 r3).1
      exact decide_eq_true ⟨r2, by omega, inS_iff.2 ⟨c, r3, (subB_iff (okC_24 hH' hC r3)).2 r4⟩⟩
    have b2 := range_split (bt A) hH'
    have b3 : (List.range' H (24 - H)).countP (bt A) = 0 := List.countP_eq_zero.2 fun h hh hb => by
      obtain ⟨x', c, r1, _⟩ := hcl h hb (bt0 h)
      have := (List.getElem?_eq_some_iff.1 r1).1
      have := (List.mem_range'_1.1 hh).1
      omega
    rw [hl] at b1
    unfold nb
    omega
  have n3 : sumS (inS l A) (dF d) l.length ≤ sumS S (dF d) l.length := by
    have key : ∀ n, n ≤ l.length → sumS (inS l A) (dF d) n ≤ sumS S (dF d) n := by
      intro n
      induction n with
      | zero => intro _; exact Int.le_refl _
      | succ n ih =>
        intro hn
        have ih := ih (by omega)
        unfold sumS
        obtain ⟨y, hy⟩ : ∃ y, d[n]? = some y := ⟨_, List.getElem?_eq_getElem (by omega)⟩
        have hy0 := hd0 y (List.mem_iff_getElem?.2 ⟨n, hy⟩)
        have hyd : dF d n = y := by unfold dF; rw [hy]; rfl
        rw [hyd]
        by_cases q : inS l A n = true
        · rw [if_pos q]
          by_cases y0 : y = 0
          · subst y0; split <;> omega
          · obtain ⟨c, hc, hs⟩ := inS_iff.1 q
            have : S n = true := (hS n).2 (.inr ⟨c, hc, (hm _).2 ⟨n, c, y, hc, hy, by omega, hs, rfl⟩⟩)
            rw [if_pos this]; omega
        · rw [if_neg q]
          by_cases q2 : S n = true
          · rw [if_pos q2]; omega
          · rw [if_neg q2]; omega
    exact key _ (Nat.le_refl _)
  omega
theorem F89l8_eq {l : List Cm} {H : Nat} (ok : okM (H : Int) l) {d : List Int} (hd : d.length = l.length) {A : Int} (hA : 0 ≤ A ∧ A < 16777216) : ∀ (m i : Nat) (o : List Int), i ≤ l.length → l.length < m + i → o.length ≤ i → o.Nodup → (∀ x ∈ o, ∃ (j : Nat) (c : Cm), j < i ∧ l[j]? = some c ∧ c.fam = x) →
    ∃ o', F89l8 l d A m o (i : Int) = F89j7 o' ∧ o'.length ≤ l.length ∧ o'.Nodup ∧ ∀ x, x ∈ o' ↔ x ∈ o ∨ ∃ (j : Nat) (c : Cm) (y : Int), i ≤ j ∧ l[j]? = some c ∧ d[j]? = some y ∧ 0 < y ∧ subB c.hrs A = true ∧ c.fam = x := by
  intro m
  have hn := ok.2.1
  have hH := ok.1
  have hC := okM_okC ok
  induction m with
  | zero => intro i o h1 h2; omega
  | succ m ih =>
    intro i o h1 h2 h3 h4 h5
    show ∃ o', F89b8 l d A (F89l8 l d A m) o (i : Int) = _ ∧ _
    unfold F89b8
    rcases drop_cases l i with ⟨hi, _⟩ | ⟨c, hi, hc, _⟩
    · rw [if_neg (by omega)]
      refine ⟨o, rfl, by omega, h4, fun x => ⟨.inl, fun q => q.elim id fun ⟨j, c, y, hj, hc, _⟩ => ?_⟩⟩
      have := (List.getElem?_eq_some_iff.1 hc).1; omega
    · have hb := okC_24 (by omega) hC hc
      obtain ⟨y, hy⟩ : ∃ y, d[i]? = some y := ⟨_, List.getElem?_eq_getElem (by omega)⟩
      have skip : ¬ (0 < y ∧ subB c.hrs A = true) → ∃ o', F89j9 (F89l8 l d A m) (i : Int) o = F89j7 o' ∧ o'.length ≤ l.length ∧ o'.Nodup ∧ ∀ x, x ∈ o' ↔ x ∈ o ∨ ∃ (j : Nat) (c : Cm) (y : Int), i ≤ j ∧ l[j]? = some c ∧ d[j]? = some y ∧ 0 < y ∧ subB c.hrs A = true ∧ c.fam = x := fun hno => by
        unfold F89j9
        rw [ckO_pos (by unfold InR; omega), succ_cast]
        obtain ⟨o', a1, a2, a3, a4⟩ := ih (i + 1) o hi (by omega) (by omega) h4 fun x hx => by
          obtain ⟨j, c, r1, r2⟩ := h5 x hx
          exact ⟨j, c, by omega, r2⟩
        refine ⟨o', a1, a2, a3, fun x => (a4 x).trans ⟨fun q => q.imp id fun ⟨j, c, y, hj, r⟩ => ⟨j, c, y, by omega, r⟩, fun q => q.imp id fun ⟨j, c', y', hj, r1, r2, r3, r4, r5⟩ => ⟨j, c', y', ?_, r1, r2, r3, r4, r5⟩⟩⟩
        rcases Nat.eq_or_lt_of_le hj with q | q
        · subst q; rw [hc] at r1; injection r1 with r1; subst r1
          rw [hy] at r2; injection r2 with r2; subst r2; exact absurd ⟨r3, r4⟩ hno
        · exact q
      rw [if_pos (by omega), gdO_pos (by omega), Int.toNat_natCast, hc, bindO_some, hy, bindO_some]
      unfold F89j10
      by_cases h0 : 0 < y
      · rw [if_pos h0, gdO_pos (by omega), gdO_pos (by omega), ckO_pos (by unfold InR; omega), ckO_pos (by unfold InR; omega)]
        by_cases hz : andNotI c.hrs A = 0
        · have hs := (andNot_sub hb hA).1 hz
          have hnew : c.fam ∉ o := fun q => by
            obtain ⟨j, c', r1, r2, r3⟩ := h5 _ q
            have := fam_one ok hc r2 r3; omega
          rw [if_pos hz, gdO_pos (by omega)]
          unfold F89j9
          rw [ckO_pos (by unfold InR; omega), succ_cast]
          obtain ⟨o', a1, a2, a3, a4⟩ := ih (i + 1) (o ++ [c.fam]) hi (by omega) (by simp; omega) (by
            rw [List.nodup_append]
            exact ⟨h4, by simp, fun a ha b hb => by rw [List.mem_singleton.1 hb]; exact fun q => hnew (q ▸ ha)⟩) fun x hx => by
            rcases List.mem_append.1 hx with hx | hx
            · obtain ⟨j, c, r1, r2⟩ := h5 x hx
              exact ⟨j, c, by omega, r2⟩
            · exact ⟨i, c, by omega, hc, (List.mem_singleton.1 hx).symm⟩
          refine ⟨o', a1, a2, a3, fun x => (a4 x).trans ⟨fun q => ?_, fun q => ?_⟩⟩
          · rcases q with q | ⟨j, c, y, hj, r⟩
            · rcases List.mem_append.1 q with q | q
              · exact .inl q
              · exact .inr ⟨i, c, y, Nat.le_refl _, hc, hy, h0, hs, (List.mem_singleton.1 q).symm⟩
            · exact .inr ⟨j, c, y, by omega, r⟩
          · rcases q with q | ⟨j, c', y', hj, r1, r2, r3, r4, r5⟩
            · exact .inl (List.mem_append_left _ q)
            · rcases Nat.eq_or_lt_of_le hj with q | q
              · subst q; rw [hc] at r1; injection r1 with r1; subst r1
                exact .inl (List.mem_append_right _ (List.mem_singleton.2 r5.symm))
              · exact .inr ⟨j, c', y', q, r1, r2, r3, r4, r5⟩
        · rw [if_neg hz]
          exact skip fun q => hz ((andNot_sub hb hA).2 q.2)
      · rw [if_neg h0]; exact skip fun q => h0 q.1
/-- what Crowd answers -/
def crowdA (l : List Cm) (H : Nat) (d : List Int) (z : List Int × Int) : Prop := (Feas l H d ∧ z = ([], 55)) ∨ (¬ Feas l H d ∧ z.2 = 0 ∧ z.1.length ≤ 12 ∧ acc l d z.1 0 0 [] = true)
theorem F89fail {l : List Cm} {H : Nat} (ok : okM (H : Int) l) {N : Nat} (hN : 60 ≤ N) {d : List Int} (hd : d.length = l.length) (hd0 : ∀ x ∈ d, 0 ≤ x) {i : Nat} {k x : Int} {R : List Int} (hI : sinv l H d i k R) (hx : d[i]? = some x) (hk : k < x) {A : Int} (hA : 0 ≤ A ∧ A < 16777216) (hcl : clo l 0 R A) (hS : inS l A i = true) :
    ∃ z, F89l8 l d A N [] 0 = some z ∧ crowdA l H d z := by
  have hn := ok.2.1
  have hH := ok.1
  have hC := okM_okC ok
  obtain ⟨o, a1, a2, a3, a4⟩ := F89l8_eq ok hd hA N 0 [] (by omega) (by omega) (by simp) (by simp) (fun x hx => by cases hx)
  rw [show ((0 : Nat) : Int) = 0 from rfl] at a1
  rw [a1]
  unfold F89j7 F89j1
  rw [gdO_pos (by omega), if_neg (by decide)]
  refine ⟨_, rfl, .inr ⟨no_feas (by omega) hC hd hd0 hI hx hk hcl hS, rfl, by rw [sortI_len]; omega, ?_⟩⟩
  have hlt : sumS (inS l A) (cnt R) l.length < sumS (inS l A) (dF d) l.length := by
    have key : ∀ j, j < l.length → cnt R j ≤ dF d j := fun j hj => by
      obtain ⟨y, hy⟩ : ∃ y, d[j]? = some y := ⟨_, List.getElem?_eq_getElem (by omega)⟩
      have b := hI.2.2 j y hy
      have c0 := hd0 y (List.mem_iff_getElem?.2 ⟨j, hy⟩)
      have hyd : dF d j = y := by unfold dF; rw [hy]; rfl
      rw [hyd]
      by_cases e1 : j < i
      · rw [if_pos e1] at b; omega
      · rw [if_neg e1] at b
        by_cases e2 : j = i
        · rw [if_pos e2] at b; subst e2; rw [hy] at hx; injection hx with hx; omega
        · rw [if_neg e2] at b; omega
    refine sumS_lt _ (fun j hj _ => key j hj) i (inS_lt hS) hS ?_
    have b := hI.2.2 i x hx
    rw [if_neg (by omega), if_pos rfl] at b
    have hyd : dF d i = x := by unfold dF; rw [hx]; rfl
    omega
  have hmem : ∀ x, x ∈ sortI o ↔ ∃ (j : Nat) (c : Cm) (y : Int), l[j]? = some c ∧ d[j]? = some y ∧ 0 < y ∧ subB c.hrs A = true ∧ c.fam = x := fun x => (sortI_perm o).mem_iff.trans ((a4 x).trans ⟨fun q => q.elim (fun z => by cases z) fun ⟨j, c, y, _, r⟩ => ⟨j, c, y, r⟩, fun ⟨j, c, y, r⟩ => .inr ⟨j, c, y, Nat.zero_le _, r⟩⟩)
  have hnd : (sortI o).Nodup := (sortI_perm o).symm.nodup a3
  have hris : (sortI o).Pairwise (· < ·) := by
    have h1 : (sortI o).Pairwise fun a b => a ≤ b ∧ a ≠ b := List.pairwise_and_iff.2 ⟨sortI_srt o, hnd⟩
    exact h1.imp fun ⟨a, b⟩ => by omega
  exact acc_yes ok hd hd0 hI.2.1 hA hcl hlt hris hmem
theorem F89_eq {H : Nat} {l : List Cm} (ok : okM (H : Int) l) {d : List Int} (hd : d.length = l.length) (hb : ∀ x ∈ d, 0 ≤ x ∧ x ≤ 24) {N : Nat} (hN : 60 ≤ N) : ∃ z, F89 N (H : Int) l d = some z ∧ crowdA l H d z := by
  have hn := ok.2.1
  have hH := ok.1
  have hC := okM_okC ok
  have hH' : H ≤ 24 := by omega
  have hd0 : ∀ x ∈ d, 0 ≤ x := fun x hx => (hb x hx).1
  unfold F89
  rw [F104_eq H hH' N hN, bindO_some]
  have loop5 : ∀ (rec3 : List Int → Int → Option (List Int × Int)) (y : Int × List Int) (i x : Nat), d[i]? = some (x : Int) → x ≤ 24 → ∀ (m k : Nat) (R : List Int), k ≤ x → x < m + k → sinv l H d i (k : Int) R →
      (∃ R', sinv l H d i (x : Int) R' ∧ F89l5 l d N rec3 y (i : Int) (x : Int) m R (k : Int) = F89j4 rec3 (i : Int) R') ∨ (∃ z, F89l5 l d N rec3 y (i : Int) (x : Int) m R (k : Int) = some z ∧ crowdA l H d z) := by
    intro rec3 y i x hx hx24 m
    induction m with
    | zero => intro k R h1 h2; omega
    | succ m ih =>
      intro k R h1 h2 hI
      show (∃ R', _ ∧ F89b5 l d N rec3 y (i : Int) (x : Int) (F89l5 l d N rec3 y (i : Int) (x : Int) m) R (k : Int) = _) ∨ (∃ z, F89b5 l d N rec3 y (i : Int) (x : Int) (F89l5 l d N rec3 y (i : Int) (x : Int) m) R (k : Int) = _ ∧ _)
      unfold F89b5
      by_cases hk : k < x
      · rw [if_pos (by omega)]
        have hi : i < l.length := by have := (List.getElem?_eq_some_iff.1 hx).1; omega
        have hc : l[i]? = some l[i] := List.getElem?_eq_getElem hi
        obtain ⟨b, A, R', e1, e2, hA, alt⟩ := more_eq hH' hC (h := y.1) hN hI.1 hI.2.1 hc
        have go : (∃ R'', sinv l H d i (x : Int) R'' ∧ F89j6 l d N (F89l5 l d N rec3 y (i : Int) (x : Int) m) (k : Int) A b R' = F89j4 rec3 (i : Int) R'') ∨ (∃ z, F89j6 l d N (F89l5 l d N rec3 y (i : Int) (x : Int) m) (k : Int) A b R' = some z ∧ crowdA l H d z) := by
          unfold F89j6
          rcases alt with ⟨rfl, b1, b2, b3⟩ | ⟨rfl, rfl, b1, b2⟩
          · rw [if_pos rfl, ckO_pos (by unfold InR; omega), succ_cast]
            refine ih (k + 1) R' (by omega) (by omega) ⟨b1, b2, fun j z hz => ?_⟩
            have a := hI.2.2 j z hz
            rw [b3 j, a]
            by_cases q : j = i
            · rw [if_neg (by omega), if_pos q, if_pos q, if_neg (by omega), if_pos q]; omega
            · rw [if_neg q]
              by_cases q2 : j < i
              · rw [if_pos q2, if_pos q2]; omega
              · rw [if_neg q2, if_neg q, if_neg q2, if_neg q]; omega
          · rw [if_neg (by decide)]
            exact .inr (F89fail ok hN hd hd0 hI hx (by omega) hA b1 b2)
        by_cases hp : 0 < R.length
        · rw [if_pos hp, e1 hp, bindO_some]; exact go
        · obtain ⟨e3, e4⟩ := e2 hp
          rw [if_neg hp, e3, bindO_some]; rw [e4] at go; exact go
      · have e : k = x := by omega
        subst e
        rw [if_neg (by omega)]
        exact .inl ⟨R, hI, rfl⟩
  have loop3 : ∀ (y : Int × List Int) (m i : Nat) (R : List Int), i ≤ d.length → d.length < m + i → sinv l H d i 0 R → ∃ z, F89l3 l d N y m R (i : Int) = some z ∧ crowdA l H d z := by
    intro y m
    induction m with
    | zero => intro i R h1 h2; omega
    | succ m ih =>
      intro i R h1 h2 hI
      show ∃ z, F89b3 l d N y (F89l3 l d N y m) R (i : Int) = _ ∧ _
      unfold F89b3
      rcases drop_cases d i with ⟨hi, e⟩ | ⟨x, hi, hx, e⟩
      · rw [if_neg (by omega)]
        unfold F89j2 F89j1
        rw [if_pos rfl]
        refine ⟨_, rfl, .inl ⟨⟨R, hI.1, hI.2.1, fun j z hz => ?_⟩, rfl⟩⟩
        have hj := (List.getElem?_eq_some_iff.1 hz).1
        have a := hI.2.2 j z hz
        rw [if_pos (by omega)] at a; omega
      · have hx0 := hb x (List.mem_iff_getElem?.2 ⟨_, hx⟩)
        obtain ⟨n, rfl⟩ : ∃ n : Nat, x = n := ⟨x.toNat, by omega⟩
        rw [if_pos (by omega), gdO_pos (by omega), Int.toNat_natCast, hx, bindO_some]
        rcases loop5 (F89l3 l d N y m) y i n hx (by omega) N 0 R (by omega) (by omega) hI with ⟨R', hI', e⟩ | ⟨z, e, hz⟩
        · rw [show ((0 : Nat) : Int) = 0 from rfl] at e
          rw [e]
          unfold F89j4
          rw [ckO_pos (by unfold InR; omega), succ_cast]
          refine ih (i + 1) R' hi (by omega) ⟨hI'.1, hI'.2.1, fun j z hz => ?_⟩
          have a := hI'.2.2 j z hz
          rw [a]
          by_cases q : j < i
          · rw [if_pos q, if_pos (by omega)]
          · rw [if_neg q]
            by_cases q2 : j = i
            · subst q2
              rw [hx] at hz; injection hz with hz
              rw [if_pos rfl, if_pos (by omega), hz]
            · rw [if_neg q2, if_neg (by omega)]
              split <;> rfl
        · rw [show ((0 : Nat) : Int) = 0 from rfl] at e
          exact ⟨z, e, hz⟩
  refine loop3 _ N 0 _ (by omega) (by omega) ⟨okH_none l H, List.length_replicate, fun j z hz => ?_⟩
  rw [cnt_none, if_neg (by omega)]
  split <;> rfl
theorem F86_ok {H : Nat} {l : List Cm} (ok : okM (H : Int) l) {N : Nat} (hN : 2000 ≤ N) {d : List Int} (hd : d.length = l.length) (hb : ∀ x ∈ d, 0 ≤ x ∧ x ≤ 24) : F86 N (H : Int) l d = some 0 := by
  have hn := ok.2.1
  have loop : ∀ (m i : Nat), i ≤ d.length → d.length < m + i → F86l1 d m (i : Int) = some 0 := by
    intro m
    induction m with
    | zero => intro i g1 g2; omega
    | succ m ih =>
      intro i g1 g2
      show F86b1 d (F86l1 d m) (i : Int) = _
      unfold F86b1
      by_cases hi : i < d.length
      · have hx : d[i]? = some d[i] := List.getElem?_eq_getElem hi
        have := hb _ (List.mem_iff_getElem?.2 ⟨i, hx⟩)
        rw [if_pos (by omega), gdO_pos (by omega), Int.toNat_natCast, hx, bindO_some, F70_eq, bindO_some, decide_eq_true this, if_pos rfl, ckO_pos (by unfold InR; omega), succ_cast]
        exact ih (i + 1) hi (by omega)
      · rw [if_neg (by omega)]
  have l0 := loop N 0 (by omega) (by omega)
  rw [show ((0 : Nat) : Int) = 0 from rfl] at l0
  unfold F86
  rw [F23_ok ok (by omega), bindO_some, if_pos rfl, if_pos (by omega), l0]
theorem F46_eq {H : Nat} {l : List Cm} (ok : okM (H : Int) l) {d : List Int} (hd : d.length = l.length) (hb : ∀ x ∈ d, 0 ≤ x ∧ x ≤ 24) {N : Nat} (hN : 2000 ≤ N) : ∃ z, F46 N (H : Int) l d = some z ∧ crowdA l H d z := by
  obtain ⟨z, e, h⟩ := F89_eq ok hd hb (N := N) (by omega)
  unfold F46
  rw [F86_ok ok hN hd hb, bindO_some, if_pos rfl, e, bindO_some]
  exact ⟨z, rfl, h⟩
theorem F50_eq {H : Nat} {l : List Cm} (ok : okM (H : Int) l) {d : List Int} (hd : d.length = l.length) (hb : ∀ x ∈ d, 0 ≤ x ∧ x ≤ 24) (fs : List Int) {N : Nat} (hN : 2000 ≤ N) : F50 N (H : Int) l d fs = some (if acc l d fs 0 0 [] = true then 0 else 54) := by
  unfold F50
  rw [F86_ok ok hN hd hb, bindO_some, if_pos rfl, F90_eq ok hd hb fs hN, bindO_some]
  split <;> rfl
def mn1 (c : Cm) : Int := if c.wants < 1 then c.wants else 1
theorem F47_eq {H : Nat} {l : List Cm} (ok : okM (H : Int) l) {N : Nat} (hN : 2000 ≤ N) : ∃ z, F47 N (H : Int) l = some z ∧ crowdA l H (l.map mn1) z := by
  have hn := ok.2.1
  have loop : ∀ (m i : Nat) (o : List Int), i ≤ l.length → l.length < m + i → o.length = i → F47l2 (H : Int) l N m o (i : Int) = F47j1 (H : Int) l N (o ++ (l.drop i).map mn1) := by
    intro m
    induction m with
    | zero => intro i o h1 h2; omega
    | succ m ih =>
      intro i o h1 h2 h3
      show F47b2 (H : Int) l N (F47l2 (H : Int) l N m) o (i : Int) = _
      unfold F47b2
      rcases drop_cases l i with ⟨hi, e⟩ | ⟨c, hi, hc, e⟩
      · rw [if_neg (by omega), e]; simp
      · rw [if_pos (by omega), gdO_pos (by omega), Int.toNat_natCast, hc, bindO_some, gdO_pos (by omega), ckO_pos (by unfold InR; omega), succ_cast, ih (i + 1) _ hi (by omega) (by simp; omega), e]
        simp [mn1]
  have l0 := loop N 0 [] (by omega) (by omega) rfl
  rw [List.drop_zero, List.nil_append, show ((0 : Nat) : Int) = 0 from rfl] at l0
  obtain ⟨z, e, h⟩ := F89_eq ok (d := l.map mn1) (by simp) (fun x hx => by
    obtain ⟨c, hc, rfl⟩ := List.mem_map.1 hx
    have := ((okM_iff.1 ok).2.2.1 c hc).1
    unfold vCm at this
    unfold mn1; split <;> omega) (N := N) (by omega)
  unfold F47
  rw [F23_ok ok (by omega), bindO_some, if_pos rfl, l0]
  unfold F47j1
  rw [e, bindO_some]
  exact ⟨z, rfl, h⟩
end Go.K
