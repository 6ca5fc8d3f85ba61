/- The fairest sharing is found; a sharing or a crowd; DriftEither answers true. No condition. -/
import Derived.Test.YtkmnjiejlgoglaaPY5
namespace Go.K
open Go.RowKit
set_option linter.unusedVariables false
set_option linter.unusedSimpArgs false
theorem F82l1_eq (chs : List Ch) (cs : List Ce) (M : Int → Option Int) (l : List Cl) (ds : List Dr) (N : Nat) (hn : cs.length ≤ 24) (hv : ∀ c ∈ cs, vCe c) (hc : ∀ c ∈ l, vCl c) (hd : ∀ d ∈ ds, 0 ≤ d.fr) (hl : l.length ≤ 12) (hlen : ds.length = l.length) (hN : 101 ≤ N) : ∀ (m i : Nat) (a : List Gn), a.length = i → i ≤ l.length → l.length < m + i →
    F82l1 chs cs M l ds N m a (i : Int) = some (a ++ gainsL cs (l.drop i) (ds.drop i)) := by
  intro m; induction m with
  | zero => intro i a ha h0 h; omega
  | succ m ih =>
    intro i a ha h0 h
    show F82b1 chs cs M l ds N (F82l1 chs cs M l ds N m) a (i : Int) = _
    unfold F82b1
    rcases drop_cases l i with ⟨h1, h2⟩ | ⟨c, h1, h2, h3⟩
    · rw [if_neg (by omega), h2]; simp [gainsL]
    · rcases drop_cases ds i with ⟨g1, g2⟩ | ⟨d, g1, g2, g3⟩
      · omega
      · have hcc := hc c (List.mem_of_getElem? h2)
        have hdd := hd d (List.mem_of_getElem? g2)
        rw [if_pos (by omega), gdO_pos (by omega), Int.toNat_natCast, g2, bindO_some, h2, bindO_some, F94_eq N chs cs M c d hdd hn hv hcc hN, bindO_some, gdO_pos (by omega), ckO_pos (by unfold InR; omega), succ_cast, ih (i + 1) _ (by simp [ha]) (by omega) (by omega), h3, g3]
        simp [gainsL]
theorem F82_eq (N : Nat) (chs : List Ch) (cs : List Ce) (M : Int → Option Int) (l : List Cl) (ds : List Dr) (hn : cs.length ≤ 24) (hv : ∀ c ∈ cs, vCe c) (hc : ∀ c ∈ l, vCl c) (hd : ∀ d ∈ ds, 0 ≤ d.fr) (hl : l.length ≤ 12) (hlen : ds.length = l.length) (hN : 101 ≤ N) : F82 N chs cs M l ds = some (gainsL cs l ds) := by
  have := F82l1_eq chs cs M l ds N hn hv hc hd hl hlen hN N 0 [] rfl (by omega) (by omega)
  simpa [F82] using this
/-- The least of some gains. -/
def lstG : Gn → List Gn → Gn
  | m, [] => m
  | m, x :: r => if mt m x then lstG x r else lstG m r
theorem lstG_mem : ∀ (r : List Gn) (m : Gn), lstG m r ∈ m :: r
  | [], m => by simp [lstG]
  | x :: r, m => by
    unfold lstG
    split
    · have := lstG_mem r x; simp at this ⊢; rcases this with h | h <;> simp [h]
    · have := lstG_mem r m; simp at this ⊢; rcases this with h | h <;> simp [h]
theorem F97l1_eq (gs : List Gn) (hg : ∀ g ∈ gs, smG g) (hn : gs.length ≤ 100) : ∀ (m i : Nat) (g : Gn), smG g → i ≤ gs.length → gs.length < m + i → F97l1 gs m g.num g.den (i : Int) = some ((lstG g (gs.drop i)).num, (lstG g (gs.drop i)).den) := by
  intro m; induction m with
  | zero => intro i g hg' h0 h; omega
  | succ m ih =>
    intro i g hg' h0 h
    show F97b1 gs (F97l1 gs m) g.num g.den (i : Int) = _
    unfold F97b1 F97j2
    rcases drop_cases gs i with ⟨h1, h2⟩ | ⟨x, h1, h2, h3⟩
    · rw [if_neg (by omega), h2]; rfl
    · have hx := hg x (List.mem_of_getElem? h2)
      have e : (⟨g.num, g.den⟩ : Gn) = g := rfl
      rw [if_pos (by omega), gdO_pos (by omega), Int.toNat_natCast, h2, bindO_some, e, F79_small hx hg', bindO_some, h3, ckO_pos (by unfold InR; omega), ckO_pos (by unfold InR; omega), succ_cast]
      unfold lstG
      by_cases hm : mt g x
      · rw [if_pos (cmp_neg.2 hm), if_pos hm, ih (i + 1) x hx (by omega) (by omega)]
      · rw [if_neg (fun h => hm (cmp_neg.1 h)), if_neg hm, ih (i + 1) g hg' (by omega) (by omega)]
def leastL (cs : List Ce) (l : List Cl) (ds : List Dr) : Gn := match gainsL cs l ds with
  | [] => ⟨0, 1⟩
  | g :: r => lstG g r
theorem gains_sm {cs : List Ce} (hv : ∀ c ∈ cs, vCe c) (hn : cs.length ≤ 24) : ∀ {l : List Cl} {ds : List Dr}, (∀ c ∈ l, vCl c) → ∀ g ∈ gainsL cs l ds, smG g ∧ 0 ≤ g.num
  | [], _, _, g, h => by simp [gainsL] at h
  | _ :: _, [], _, g, h => by simp [gainsL] at h
  | c :: l, d :: ds, hc, g, h => by
    simp only [gainsL, List.zipWith_cons_cons, List.mem_cons] at h
    rcases h with rfl | h
    · exact gnC_ok hv hn (hc c (by simp)) _ _
    · exact gains_sm hv hn (fun c hc' => hc c (by simp [hc'])) g h
theorem leastL_mem {cs : List Ce} {l : List Cl} {ds : List Dr} (h : 0 < l.length) (hl : ds.length = l.length) : leastL cs l ds ∈ gainsL cs l ds := by
  unfold leastL
  cases hq : gainsL cs l ds with
  | nil =>
    have : (gainsL cs l ds).length = l.length := by simp [gainsL]; omega
    rw [hq] at this; simp at this; omega
  | cons g r => exact lstG_mem r g
theorem F97_eq (N : Nat) (chs : List Ch) (cs : List Ce) (M : Int → Option Int) (l : List Cl) (ds : List Dr) (hn : cs.length ≤ 24) (hv : ∀ c ∈ cs, vCe c) (hc : ∀ c ∈ l, vCl c) (hd : ∀ d ∈ ds, 0 ≤ d.fr) (h0 : 0 < l.length) (hl : l.length ≤ 12) (hlen : ds.length = l.length) (hN : 101 ≤ N) : F97 N chs cs M l ds = some ((leastL cs l ds).num, (leastL cs l ds).den) := by
  unfold F97
  rw [F82_eq N chs cs M l ds hn hv hc hd hl hlen hN, bindO_some]
  have hlen2 : (gainsL cs l ds).length = l.length := by simp [gainsL]; omega
  have hs := gains_sm (ds := ds) hv hn hc
  rw [if_neg (by omega)]
  unfold leastL
  cases hq : gainsL cs l ds with
  | nil => rw [hq] at hlen2; simp at hlen2; omega
  | cons g r =>
    rw [hq] at hs hlen2
    rw [show (g :: r)[0]? = some g from rfl, bindO_some]
    have := F97l1_eq (g :: r) (fun x hx => (hs x hx).1) (by omega) N 1 g (hs g (by simp)).1 (by simp) (by omega)
    simpa using this
/-! it ends -/
def valG (g : Gn) : Int := g.num * (232792560 / g.den)
theorem val_den {g : Gn} (h : 1 ≤ g.den ∧ g.den ≤ 20) : (232792560 / g.den) * g.den = 232792560 ∧ 0 < 232792560 / g.den := by
  have : g.den = 1 ∨ g.den = 2 ∨ g.den = 3 ∨ g.den = 4 ∨ g.den = 5 ∨ g.den = 6 ∨ g.den = 7 ∨ g.den = 8 ∨ g.den = 9 ∨ g.den = 10 ∨ g.den = 11 ∨ g.den = 12 ∨ g.den = 13 ∨ g.den = 14 ∨ g.den = 15 ∨ g.den = 16 ∨ g.den = 17 ∨ g.den = 18 ∨ g.den = 19 ∨ g.den = 20 := by omega
  rcases this with h | h | h | h | h | h | h | h | h | h | h | h | h | h | h | h | h | h | h | h <;> rw [h] <;> decide
theorem mt_val {g t : Gn} (hg : smG g) (ht : smG t) (h : mt g t) : valG t < valG g := by
  unfold smG at hg ht
  obtain ⟨a1, a2⟩ := val_den hg.2
  obtain ⟨b1, b2⟩ := val_den ht.2
  unfold mt at h
  unfold valG
  generalize 232792560 / g.den = x at *
  generalize 232792560 / t.den = y at *
  have h1 : t.num * g.den * (x * y) < g.num * t.den * (x * y) := Int.mul_lt_mul_of_pos_right h (Int.mul_pos a2 b2)
  have e1 : t.num * g.den * (x * y) = t.num * y * 232792560 := by rw [← a1]; ac_rfl
  have e2 : g.num * t.den * (x * y) = g.num * x * 232792560 := by rw [← b1]; ac_rfl
  rw [e1, e2] at h1
  omega
theorem val_bd {g : Gn} (hg : smG g) : valG g ≤ 240000 * 232792560 ∧ -232792560 ≤ valG g := by
  unfold smG at hg
  obtain ⟨a1, a2⟩ := val_den hg.2
  unfold valG
  generalize 232792560 / g.den = x at *
  have hx : x ≤ 232792560 := by
    have := Int.mul_le_mul_of_nonneg_left hg.2.1 (show 0 ≤ x by omega)
    omega
  have h1 := Int.mul_le_mul_of_nonneg_right hg.1.1 (show 0 ≤ x by omega)
  have h2 := Int.mul_le_mul_of_nonneg_right hg.1.2 (show 0 ≤ x by omega)
  omega
theorem shL_fr : ∀ {l : List Cl} {ds : List Dr} {s : Int}, shL l ds s → (∀ c ∈ l, 0 ≤ c.fr) → ∀ d ∈ ds, 0 ≤ d.fr
  | [], [], _, _, _, d, h => by cases h
  | c :: l, e :: ds, s, h, hc, d, hd => by
    rcases List.mem_cons.1 hd with rfl | hd
    · have h1 := h.1
      have h2 := hc c (by simp)
      have : c.fr ≤ hi2 c.fr s := by unfold hi2; split <;> omega
      omega
    · exact shL_fr h.2.2.2 (fun c hc' => hc c (by simp [hc'])) d hd
  | [], _ :: _, _, h, _, _, _ => absurd h (fun h => h)
  | _ :: _, [], _, h, _, _, _ => absurd h (fun h => h)
structure GC (chs : List Ch) (cs : List Ce) (c : Cl) (r : List Cl) : Prop where
  n : cs.length ≤ 24
  v : ∀ c ∈ cs, vCe c
  k : ∀ x ∈ c :: r, vCl x
  l : (c :: r).length ≤ 12
theorem F86l1_eq {chs : List Ch} {cs : List Ce} {M : Int → Option Int} {c : Cl} {r : List Cl} (H : GC chs cs c r) (N : Nat) (hN : 101 ≤ N) : ∀ (m : Nat) (t : Gn) (bd_ : List Dr) (bn bden : Int), smG t → (srch cs t (c :: r) c.fr).2.2 = true → 240000 * 232792560 + 3 < valG t + m →
    ∃ ds t', F86l1 chs cs M (c :: r) N m (srch cs t (c :: r) c.fr).1 (c.fr :: (srch cs t (c :: r) c.fr).2.1) true bd_ bn bden = some (ds, t'.num, t'.den, c.fr :: (srch cs t' (c :: r) c.fr).2.1, true) ∧ shL (c :: r) ds c.fr ∧ t' = leastL cs (c :: r) ds ∧ smG t' ∧ (srch cs t' (c :: r) c.fr).2.2 = false := by
  intro m; induction m with
  | zero => intro t bd_ bn bden ht hs h; have := val_bd ht; omega
  | succ m ih =>
    intro t bd_ bn bden ht hs h
    obtain ⟨s1, s2⟩ := srch_sh cs t (c :: r) c.fr hs
    have hlen := shL_len s1
    have hfr := shL_fr s1 (fun x hx => by have := H.k x hx; unfold vCl at this; omega)
    have hmem := leastL_mem (cs := cs) (by simp) hlen
    have hsm := (gains_sm H.v H.n H.k _ hmem).1
    have hmt := s2 _ hmem
    have hval := mt_val hsm ht hmt
    show ∃ ds t', F86b1 chs cs M (c :: r) N (F86l1 chs cs M (c :: r) N m) _ _ true bd_ bn bden = _ ∧ _
    unfold F86b1
    rw [if_pos rfl, F97_eq N chs cs M (c :: r) _ H.n H.v H.k hfr (by simp) H.l hlen hN, bindO_some]
    generalize hds : (srch cs t (c :: r) c.fr).1 = ds at *
    generalize hg : leastL cs (c :: r) ds = g at *
    show ∃ ds' t', bindO (F96 N chs cs M (c :: r) g) _ = _ ∧ _
    rw [F96_eq N chs cs M c r g H.n H.v H.k H.l hsm hN, bindO_some]
    show ∃ ds' t', F86l1 chs cs M (c :: r) N m (srch cs g (c :: r) c.fr).1 (c.fr :: (srch cs g (c :: r) c.fr).2.1) (srch cs g (c :: r) c.fr).2.2 ds g.num g.den = _ ∧ _
    cases hq : (srch cs g (c :: r) c.fr).2.2 with
    | true => exact ih g ds g.num g.den hsm hq (by omega)
    | false =>
      obtain ⟨k, rfl⟩ : ∃ k, m = k + 1 := ⟨m - 1, by have := val_bd hsm; omega⟩
      refine ⟨ds, g, ?_, s1, hg.symm, hsm, hq⟩
      show F86b1 chs cs M (c :: r) N (F86l1 chs cs M (c :: r) N k) _ _ false ds g.num g.den = _
      unfold F86b1
      rw [if_neg (by decide)]
def tm1 : Gn := ⟨-1, 1⟩
theorem tm1_sm : smG tm1 := by unfold smG tm1; simp
theorem tm1_val : valG tm1 = -232792560 := by unfold valG tm1; decide
/-- What is fairest. -/
structure Best (cs : List Ce) (c : Cl) (r : List Cl) (ds : List Dr) (t : Gn) : Prop where
  sh : shL (c :: r) ds c.fr
  least : t = leastL cs (c :: r) ds
  sm : smG t
  wall : (srch cs t (c :: r) c.fr).2.2 = false
theorem F86_eq {chs : List Ch} {cs : List Ce} {M : Int → Option Int} {c : Cl} {r : List Cl} (H : GC chs cs c r) (N : Nat) (hN : 100000000000000 ≤ N) :
    ((srch cs tm1 (c :: r) c.fr).2.2 = false ∧ F86 N chs cs M (c :: r) = some ([], 0, 0, [], false)) ∨
    ((srch cs tm1 (c :: r) c.fr).2.2 = true ∧ ∃ ds t, F86 N chs cs M (c :: r) = some (ds, t.num, t.den, c.fr :: (srch cs t (c :: r) c.fr).2.1, true) ∧ Best cs c r ds t) := by
  unfold F86
  show (_ ∧ bindO (F96 N chs cs M (c :: r) tm1) _ = _) ∨ (_ ∧ ∃ ds t, bindO (F96 N chs cs M (c :: r) tm1) _ = _ ∧ _)
  rw [F96_eq N chs cs M c r tm1 H.n H.v H.k H.l tm1_sm (by omega)]
  simp only [bindO_some]
  cases hq : (srch cs tm1 (c :: r) c.fr).2.2 with
  | false => left; exact ⟨rfl, by simp⟩
  | true =>
    right
    refine ⟨rfl, ?_⟩
    obtain ⟨ds, t, h1, h2, h3, h4, h5⟩ := F86l1_eq (M := M) H N (by omega) N tm1 [] 0 0 tm1_sm hq (by rw [tm1_val]; omega)
    refine ⟨ds, t, ?_, h2, h3, h4, h5⟩
    rw [if_neg (by decide)]
    exact h1
/-! crowds -/
def crowdL (l : List Cl) (a b : Int) : Prop := ∃ x y, l[b.toNat]? = some x ∧ l[a.toNat]? = some y ∧ hi2 (x.to - y.fr + 1) 0 < b - a + 1
theorem crowd_not {l : List Cl} {ds : List Dr} : ∀ {s : Int}, shL l ds s → ∀ (a n : Nat) (x y : Cl), l[a + n]? = some x → l[a]? = some y → y.fr + n ≤ x.to := by
  have key : ∀ (l : List Cl) (ds : List Dr) (s : Int), shL l ds s → ∀ (n : Nat) (x : Cl), l[n]? = some x → s + n ≤ x.to := by
    intro l
    induction l with
    | nil => intro ds s h n x hx; simp at hx
    | cons c l ih =>
      intro ds s h n x hx
      cases ds with
      | nil => exact absurd h (fun h => h)
      | cons d ds =>
        have hq : s ≤ hi2 c.fr s := by unfold hi2; split <;> omega
        have h1 := h.1; have h2 := h.2.1; have h3 := h.2.2.1
        cases n with
        | zero => simp at hx; subst hx; omega
        | succ n =>
          have := ih ds (d.to + 1) h.2.2.2 n x (by simpa using hx)
          omega
  induction l generalizing ds with
  | nil => intro s h a n x y hx hy; simp at hx
  | cons c l ih =>
    intro s h a n x y hx hy
    cases ds with
    | nil => exact absurd h (fun h => h)
    | cons d ds =>
      cases a with
      | zero =>
        simp at hy; subst hy
        have h1 := h.1; have h2 := h.2.1; have h3 := h.2.2.1
        have hq : c.fr ≤ hi2 c.fr s := by unfold hi2; split <;> omega
        cases n with
        | zero => simp at hx; subst hx; omega
        | succ n =>
          have := key l ds (d.to + 1) h.2.2.2 n x (by simpa using hx)
          omega
      | succ a =>
        exact ih h.2.2.2 a n x y (by rw [← hx, show a + 1 + n = (a + n) + 1 by omega]; simp) (by simpa using hy)
theorem no_crowd {l : List Cl} {ds : List Dr} {s : Int} (h : shL l ds s) {a b : Int} (hab : 0 ≤ a ∧ a ≤ b ∧ b < l.length) : ¬ crowdL l a b := by
  rintro ⟨x, y, h1, h2, h3⟩
  have := crowd_not h a.toNat (b - a).toNat x y (by rw [← h1]; congr 1; omega) h2
  unfold hi2 at h3
  split at h3 <;> omega
theorem srch_tm1 (cs : List Ce) (hn : cs.length ≤ 24) (hv : ∀ c ∈ cs, vCe c) : ∀ (l : List Cl) (s : Int), (∀ c ∈ l, vCl c) → (srch cs tm1 l s).2.2 = false → (∃ (k : Nat) (x : Cl), l[k]? = some x ∧ x.to < s + k) ∨ ∃ (a n : Nat) (x y : Cl), l[a + n]? = some x ∧ l[a]? = some y ∧ x.to < y.fr + n
  | [], s, _, h => by cases h
  | c :: r, s, hc, h => by
    unfold srch at h
    have hcc := hc c (by simp)
    have hq : hi2 c.fr s = s ∨ hi2 c.fr s = c.fr := by unfold hi2; split <;> simp
    by_cases hx : hi2 c.fr s ≤ c.to
    · have e : fstTo (fun x => mt (gnC cs c (hi2 c.fr s) x) tm1) (c.to + 1 - hi2 c.fr s).toNat (hi2 c.fr s) = some (hi2 c.fr s) := by
        rw [show (c.to + 1 - hi2 c.fr s).toNat = (c.to - hi2 c.fr s).toNat + 1 by omega]
        unfold fstTo
        rw [if_pos]
        have := gnC_ok hv hn hcc (hi2 c.fr s) (hi2 c.fr s)
        unfold smG at this
        unfold mt tm1
        show -1 * (gnC cs c (hi2 c.fr s) (hi2 c.fr s)).den < (gnC cs c (hi2 c.fr s) (hi2 c.fr s)).num * 1
        omega
      rw [e] at h
      rcases srch_tm1 cs hn hv r (hi2 c.fr s + 1) (fun c hc' => hc c (by simp [hc'])) h with ⟨k, x, h1, h2⟩ | ⟨a, n, x, y, h1, h2, h3⟩
      · rcases hq with hq | hq
        · left; exact ⟨k + 1, x, by simpa using h1, by omega⟩
        · right; exact ⟨0, k + 1, x, c, by simpa using h1, rfl, by omega⟩
      · right; exact ⟨a + 1, n, x, y, by rw [show a + 1 + n = (a + n) + 1 by omega]; simpa using h1, by simpa using h2, h3⟩
    · rcases hq with hq | hq
      · left; exact ⟨0, c, rfl, by omega⟩
      · right; exact ⟨0, 0, c, c, rfl, rfl, by omega⟩
theorem crowd_of {cs : List Ce} (hn : cs.length ≤ 24) (hv : ∀ c ∈ cs, vCe c) {c : Cl} {r : List Cl} (hc : ∀ x ∈ c :: r, vCl x) (h : (srch cs tm1 (c :: r) c.fr).2.2 = false) : ∃ (a b : Nat), a ≤ b ∧ b < (c :: r).length ∧ crowdL (c :: r) a b := by
  have fin : ∀ (a n : Nat) (x y : Cl), (c :: r)[a + n]? = some x → (c :: r)[a]? = some y → x.to < y.fr + n → ∃ (a b : Nat), a ≤ b ∧ b < (c :: r).length ∧ crowdL (c :: r) a b := fun a n x y h1 h2 h3 => by
    refine ⟨a, a + n, by omega, ?_, x, y, by rw [Int.toNat_natCast]; exact h1, by rw [Int.toNat_natCast]; exact h2, by unfold hi2; split <;> omega⟩
    rcases Nat.lt_or_ge (a + n) (c :: r).length with h4 | h4
    · exact h4
    · rw [List.getElem?_eq_none h4] at h1; cases h1
  rcases srch_tm1 cs hn hv (c :: r) c.fr hc h with ⟨k, x, h1, h2⟩ | ⟨a, n, x, y, h1, h2, h3⟩
  · exact fin 0 k x c (by simpa using h1) rfl h2
  · exact fin a n x y h1 h2 h3
theorem okL_all : ∀ (l : List Cl) (n : Int) (s : List Int), okL n s l → ∀ c ∈ l, vCl c ∧ c.to < n
  | [], _, _, _, c, hc => by simp at hc
  | d :: l, n, s, h, c, hc => by
    rcases List.mem_cons.1 hc with rfl | hc
    · exact ⟨h.1, h.2.1⟩
    · exact okL_all l n _ h.2.2.2 c hc
theorem shL_zero {c : Cl} {r : List Cl} {ds : List Dr} (h0 : 0 ≤ c.fr) : shL (c :: r) ds c.fr ↔ shL (c :: r) ds 0 := by
  cases ds with
  | nil => exact ⟨fun h => h, fun h => h⟩
  | cons d ds =>
    have e : hi2 c.fr c.fr = hi2 c.fr 0 := by
      unfold hi2; repeat' split
      all_goals omega
    rw [shL_cons, shL_cons, e]
theorem F84_eq (N : Nat) (chs : List Ch) (cs : List Ce) (c : Cl) (r : List Cl) (hg : okG chs cs) (hc : okC cs (c :: r)) (hN : 100000000000000 ≤ N) :
    ((srch cs tm1 (c :: r) c.fr).2.2 = false ∧ F84 N chs cs (c :: r) = some ([], 0, 0, [], 47)) ∨
    ((srch cs tm1 (c :: r) c.fr).2.2 = true ∧ ∃ ds t, F84 N chs cs (c :: r) = some (ds, t.num, t.den, c.fr :: (srch cs t (c :: r) c.fr).2.1, 0) ∧ Best cs c r ds t) := by
  have H : GC chs cs c r := ⟨hg.2.1.2, okG_ces hg, fun x h => (okL_all _ _ _ hc.2 x h).1, hc.1.2⟩
  unfold F84
  rw [F64_eq N chs cs _ (by omega), if_pos hg, if_pos hc, bindS3_3]
  rcases F86_eq (M := extM noM 0 chs) H N hN with ⟨h1, h2⟩ | ⟨h1, ds, t, h2, h3⟩
  · left; rw [h2, bindO_some]; exact ⟨h1, rfl⟩
  · right; rw [h2, bindO_some]; exact ⟨h1, ds, t, rfl, h3⟩
end Go.K
