/- DriftMore answers true: who can reach more, has fewer heads, is not there, or has better cells makes the least no less. No condition. -/
import Derived.Test.YtkmnjiejlgoglaaPY8
namespace Go.K
open Go.RowKit
set_option linter.unusedVariables false
set_option linter.unusedSimpArgs false
theorem mt_gn2 {w h : Int} {t : Gn} (hw : 0 ≤ w) (hh : 1 ≤ h) : mt t (gnOf w h) ↔ w * t.den < t.num * h := by
  obtain ⟨h1, h2, h3⟩ := gnOf_ok hw hh
  generalize gnOf w h = g at *
  have e1 : t.num * g.den * h = t.num * h * g.den := by ac_rfl
  have e2 : g.num * t.den * h = w * t.den * g.den := by
    have : g.num * t.den * h = g.num * h * t.den := by ac_rfl
    rw [this, h3]; ac_rfl
  have a1 : g.num * t.den * h < t.num * g.den * h ↔ g.num * t.den < t.num * g.den := Int.mul_lt_mul_right (by omega)
  have a2 : w * t.den * g.den < t.num * h * g.den ↔ w * t.den < t.num * h := Int.mul_lt_mul_right (by omega)
  unfold mt
  rw [← a1, e1, e2, a2]
/-- The second claims are at least as good as the first ones. -/
def relL : List Cl → List Cl → Prop
  | [], [] => True
  | c :: l, c' :: l' => (c'.fr ≤ c.fr ∧ c.to ≤ c'.to ∧ c'.hd ≤ c.hd) ∧ relL l l'
  | _, _ => False
theorem relL_refl : ∀ l, relL l l
  | [] => trivial
  | c :: l => ⟨⟨Int.le_refl _, Int.le_refl _, Int.le_refl _⟩, relL_refl l⟩
theorem relL_set {x y : Cl} (h : y.fr ≤ x.fr ∧ x.to ≤ y.to ∧ y.hd ≤ x.hd) : ∀ (l : List Cl) (i : Nat), l[i]? = some x → relL l (l.set i y)
  | [], i, hx => by simp at hx
  | c :: l, 0, hx => by simp at hx; subst hx; exact ⟨h, relL_refl l⟩
  | c :: l, i + 1, hx => ⟨⟨Int.le_refl _, Int.le_refl _, Int.le_refl _⟩, relL_set h l i (by simpa using hx)⟩
theorem shL_mono_s : ∀ {l : List Cl} {ds : List Dr} {s s' : Int}, shL l ds s' → s ≤ s' → shL l ds s
  | [], [], _, _, _, _ => trivial
  | c :: l, d :: ds, s, s', h, hs => by
    rw [shL_cons] at *
    refine ⟨?_, h.2⟩
    have : hi2 c.fr s ≤ hi2 c.fr s' := by
      unfold hi2; repeat' split
      all_goals omega
    omega
  | [], _ :: _, _, _, h, _ => absurd h (fun h => h)
  | _ :: _, [], _, _, h, _ => absurd h (fun h => h)
theorem shL_rel : ∀ {l l' : List Cl} {ds : List Dr} {s : Int}, relL l l' → shL l ds s → shL l' ds s
  | [], [], [], _, _, _ => trivial
  | c :: l, c' :: l', d :: ds, s, hr, h => by
    rw [shL_cons] at *
    have h1 := hr.1
    refine ⟨?_, h.2.1, by omega, shL_rel hr.2 h.2.2.2⟩
    have : hi2 c'.fr s ≤ hi2 c.fr s := by
      unfold hi2; repeat' split
      all_goals omega
    omega
  | [], [], _ :: _, _, _, h => absurd h (fun h => h)
  | _ :: _, _ :: _, [], _, _, h => absurd h (fun h => h)
  | [], _ :: _, _, _, hr, _ => absurd hr (fun h => h)
  | _ :: _, [], _, _, hr, _ => absurd hr (fun h => h)
theorem gains_rel {cs cs' : List Ce} (hv : ∀ c ∈ cs, vCe c) (hn : cs.length ≤ 24) (hv' : ∀ c ∈ cs', vCe c) (hn' : cs'.length ≤ 24) (hw : ∀ a b, worthOf cs a b ≤ worthOf cs' a b) {t : Gn} (ht : 0 ≤ t.num ∧ 0 ≤ t.den) : ∀ {l l' : List Cl} {ds : List Dr}, relL l l' → (∀ c ∈ l, vCl c) → (∀ c ∈ l', vCl c) → (∀ g ∈ gainsL cs l ds, ¬ mt t g) → ∀ g ∈ gainsL cs' l' ds, ¬ mt t g
  | [], [], _, _, _, _, _, g, hg => by simp [gainsL] at hg
  | c :: l, c' :: l', [], _, _, _, _, g, hg => by simp [gainsL] at hg
  | c :: l, c' :: l', d :: ds, hr, hc, hc', h, g, hg => by
    simp only [gainsL, List.zipWith_cons_cons, List.mem_cons] at hg
    rcases hg with rfl | hg
    · have h0 := h (gnC cs c d.fr d.to) (by simp [gainsL])
      have v1 := hc c (by simp); have v2 := hc' c' (by simp)
      unfold vCl at v1 v2
      have b1 := worthOf_bd hv hn d.fr d.to; have b2 := worthOf_bd hv' hn' d.fr d.to
      unfold gnC at *
      rw [mt_gn2 b1.1 v1.2.2.1] at h0
      rw [mt_gn2 b2.1 v2.2.2.1]
      have m1 := Int.mul_le_mul_of_nonneg_right (hw d.fr d.to) ht.2
      have m2 := Int.mul_le_mul_of_nonneg_left hr.1.2.2 ht.1
      omega
    · exact gains_rel hv hn hv' hn' hw ht hr.2 (fun c hx => hc c (by simp [hx])) (fun c hx => hc' c (by simp [hx])) (fun g hg => h g (by simp only [gainsL, List.zipWith_cons_cons, List.mem_cons]; exact .inr hg)) g hg
  | [], _ :: _, _, hr, _, _, _, _, _ => absurd hr (fun h => h)
  | _ :: _, [], _, hr, _, _, _, _, _ => absurd hr (fun h => h)
theorem okL_seen : ∀ (l : List Cl) (n : Int) (s s' : List Int), (∀ x, x ∈ s' → x ∈ s) → okL n s l → okL n s' l
  | [], _, _, _, _, _ => trivial
  | c :: l, n, s, s', hs, h => ⟨h.1, h.2.1, fun hm => h.2.2.1 (hs _ hm), okL_seen l n _ _ (fun x hx => by
      rcases List.mem_cons.1 hx with rfl | hx
      · simp
      · simp [hs x hx]) h.2.2.2⟩
theorem okL_set {n : Int} {x y : Cl} (hy : vCl y ∧ y.to < n ∧ y.fam = x.fam) : ∀ (l : List Cl) (i : Nat) (s : List Int), l[i]? = some x → okL n s l → okL n s (l.set i y)
  | [], i, s, hx, _ => by simp at hx
  | c :: l, 0, s, hx, h => by
    simp at hx; subst hx
    exact ⟨hy.1, hy.2.1, by rw [hy.2.2]; exact h.2.2.1, by rw [hy.2.2]; exact h.2.2.2⟩
  | c :: l, i + 1, s, hx, h => ⟨h.1, h.2.1, h.2.2.1, okL_set hy l i _ (by simpa using hx) h.2.2.2⟩
theorem okL_del {n : Int} : ∀ (l : List Cl) (i : Nat) (s : List Int), okL n s l → okL n s (l.take i ++ l.drop (i + 1))
  | [], i, s, _ => by simp [okL]
  | c :: l, 0, s, h => by
    simp only [List.take_zero, List.nil_append, Nat.zero_add, List.drop_succ_cons, List.drop_zero]
    exact okL_seen l n _ s (fun x hx => by simp [hx]) h.2.2.2
  | c :: l, i + 1, s, h => by
    simp only [List.take_succ_cons, List.drop_succ_cons, List.cons_append]
    exact ⟨h.1, h.2.1, h.2.2.1, okL_del l i _ h.2.2.2⟩
theorem shL_del : ∀ {l : List Cl} {ds : List Dr} {s : Int} (i : Nat), shL l ds s → shL (l.take i ++ l.drop (i + 1)) (ds.take i ++ ds.drop (i + 1)) s
  | [], [], s, i, _ => by simp [shL]
  | c :: l, d :: ds, s, 0, h => by
    simp only [List.take_zero, List.nil_append, Nat.zero_add, List.drop_succ_cons, List.drop_zero]
    rw [shL_cons] at h
    refine shL_mono_s h.2.2.2 ?_
    have : s ≤ hi2 c.fr s := by unfold hi2; split <;> omega
    omega
  | c :: l, d :: ds, s, i + 1, h => by
    simp only [List.take_succ_cons, List.drop_succ_cons, List.cons_append]
    rw [shL_cons] at *
    exact ⟨h.1, h.2.1, h.2.2.1, shL_del i h.2.2.2⟩
  | [], _ :: _, _, _, h => absurd h (fun h => h)
  | _ :: _, [], _, _, h => absurd h (fun h => h)
theorem gains_del (cs : List Ce) : ∀ (l : List Cl) (ds : List Dr) (i : Nat), ∀ g ∈ gainsL cs (l.take i ++ l.drop (i + 1)) (ds.take i ++ ds.drop (i + 1)), ds.length = l.length → g ∈ gainsL cs l ds
  | [], ds, i, g, hg, _ => by simp [gainsL] at hg
  | c :: l, [], i, g, hg, hl => by simp at hl
  | c :: l, d :: ds, 0, g, hg, _ => by
    simp only [List.take_zero, List.nil_append, Nat.zero_add, List.drop_succ_cons, List.drop_zero] at hg
    simp only [gainsL, List.zipWith_cons_cons, List.mem_cons]; exact .inr hg
  | c :: l, d :: ds, i + 1, g, hg, hl => by
    simp only [List.take_succ_cons, List.drop_succ_cons, List.cons_append] at hg
    simp only [gainsL, List.zipWith_cons_cons, List.mem_cons] at hg ⊢
    rcases hg with h | h
    · exact .inl h
    · exact .inr (gains_del cs l ds i g h (by simpa using hl))
theorem sum_le_get : ∀ (a b : List Int), a.length = b.length → (∀ (j : Nat) (x y : Int), a[j]? = some x → b[j]? = some y → x ≤ y) → a.sum ≤ b.sum
  | [], [], _, _ => Int.le_refl _
  | x :: a, y :: b, hl, h => by
    have h0 := h 0 x y rfl rfl
    have := sum_le_get a b (by simpa using hl) (fun j x y h1 h2 => h (j + 1) x y (by simpa using h1) (by simpa using h2))
    simp; omega
  | [], _ :: _, h, _ => by simp at h
  | _ :: _, [], h, _ => by simp at h
theorem worth_set {cs : List Ce} {k : Nat} {x y : Ce} (hx : cs[k]? = some x) (h : x.wo ≤ y.wo) (a b : Int) : worthOf cs a b ≤ worthOf (cs.set k y) a b := by
  unfold worthOf
  refine sum_le_get _ _ (by simp) (fun j u v h1 h2 => ?_)
  rw [List.getElem?_map, Option.map_eq_some_iff] at h1 h2
  obtain ⟨c, h1, rfl⟩ := h1
  obtain ⟨d, h2, rfl⟩ := h2
  rw [List.getElem?_take] at h1 h2
  split at h1
  · rename_i hj
    rw [if_pos hj, List.getElem?_drop, List.getElem?_set] at h2
    rw [List.getElem?_drop] at h1
    by_cases e : k = a.toNat + j
    · have hk : a.toNat + j < cs.length := lt_of_get h1
      rw [if_pos e, if_pos (by omega)] at h2
      rw [← e, hx] at h1
      injection h1 with h1; injection h2 with h2
      rw [← h1, ← h2]; exact h
    · rw [if_neg e, h1] at h2
      injection h2 with h2
      rw [h2]; exact Int.le_refl _
  · cases h1
theorem okG_set {chs : List Ch} {cs : List Ce} {k : Nat} {x y : Ce} (hg : okG chs cs) (hx : cs[k]? = some x) (hy : vCe y ∧ y.ch = x.ch) : okG chs (cs.set k y) := by
  rw [okG_ref] at *
  refine ⟨hg.1, by simpa using hg.2.1, hg.2.2.1, fun c hc => ?_⟩
  rcases List.mem_or_eq_of_mem_set hc with h | rfl
  · exact hg.2.2.2 c h
  · exact ⟨hy.1, by rw [hy.2]; exact (hg.2.2.2 x (List.mem_of_getElem? hx)).2⟩
/-- With a sharing that gives each at least t the least is no less than t. -/
theorem F37_more (N : Nat) (hN : 100000000000000 ≤ N) (chs : List Ch) (cs : List Ce) (c : Cl) (r : List Cl) (t : Gn) (ht : smG t ∧ 0 ≤ t.num) (hg : okG chs cs) (hc : okC cs (c :: r)) (ds : List Dr) (hs : shL (c :: r) ds 0) (hgt : ∀ g ∈ gainsL cs (c :: r) ds, ¬ mt t g) :
    ∃ t', F37 N chs cs (c :: r) = some (t'.num, t'.den, 0) ∧ vGn t' ∧ ¬ mt t t' := by
  have hcl : ∀ x ∈ c :: r, vCl x := fun x h => (okL_all _ _ _ hc.2 x h).1
  have hv := okG_ces hg
  have hn := hg.2.1.2
  unfold F37
  rcases F84_eq N chs cs c r hg hc hN with ⟨s1, s2⟩ | ⟨s1, best, t', s2, s3⟩
  · obtain ⟨a, b, k1, k2, k3⟩ := crowd_of hn hv hcl s1
    exact absurd k3 (no_crowd hs ⟨by omega, by omega, by omega⟩)
  · have hmem := leastL_mem (cs := cs) (show 0 < (c :: r).length by simp) (shL_len s3.sh)
    rw [← s3.least] at hmem
    have hsm := gains_sm hv hn hcl _ hmem
    have hw := best_wall hv hn hcl hc.1.2 s3 hsm.2
    rw [s2, bindO_some]
    refine ⟨t', rfl, sm_vGn hsm, fun hm => wall_best hv hn hcl hw hs fun g hg' => ?_⟩
    have g1 := (gains_sm (ds := ds) hv hn hcl g hg').1
    have t1 := ht.1; have t2 := hsm.1
    unfold smG at g1 t1 t2
    exact mt_of_not (by omega) (by omega) (by omega) (hgt g hg') hm
theorem F9j3_eq (N : Nat) (chs : List Ch) (cs cs' : List Ce) (l l' : List Cl) (t : Gn) (ht : vGn t) (h : ∃ t', F37 N chs cs' l' = some (t'.num, t'.den, 0) ∧ vGn t' ∧ ¬ mt t t') : F9j3 N (chs, cs, l) (t.num, t.den, 0) cs' l' = some true := by
  obtain ⟨t', h1, h2, h3⟩ := h
  unfold F9j3
  dsimp only
  rw [h1, bindO_some, F33_vv (show vGn (⟨t.num, t.den⟩ : Gn) from ht) (show vGn (⟨t'.num, t'.den⟩ : Gn) from h2), bindO_some, if_pos rfl, if_pos rfl]
  have : ¬ 0 < cmpG ⟨t.num, t.den⟩ ⟨t'.num, t'.den⟩ := fun h => h3 (cmpG_pos.1 h)
  rw [if_pos (by dsimp only; omega)]
theorem more_any (N : Nat) (hN1 : 100000000000000 ≤ N) (hs0 : F11 N = some true) (r0 : List A2) (r1 r2 : List A3) (p : A2) : F9 N r0 r1 r2 p = some true := by
  unfold F9
  rw [hs0, bindO_some, if_pos rfl]
  unfold F9j1
  obtain ⟨chs, cs, l, h1, hm⟩ := F54_eq N r0 r1 r2 (by omega)
  rw [h1, bindO_some]
  dsimp only
  have hg := hm.g; have hc := hm.c
  have hl := hc.1; have hl6 := hm.n3; have hc10 := hm.n2; have hcl1 := hg.2.1
  cases hlc : l with
  | nil => rw [hlc] at hl; simp at hl
  | cons c r =>
    rw [← hlc]
    have hcl : ∀ x ∈ l, vCl x := fun x h => (okL_all _ _ _ hc.2 x h).1
    have hto : ∀ x ∈ l, x.to < cs.length := fun x h => (okL_all _ _ _ hc.2 x h).2
    have hv := okG_ces hg
    have hn := hg.2.1.2
    have hfr : 0 ≤ c.fr := by have := hcl c (by rw [hlc]; simp); unfold vCl at this; omega
    have h84 := F84_eq N chs cs c r hg (hlc ▸ hc) hN1
    rw [← hlc] at h84
    unfold F37
    rcases h84 with ⟨s1, s2⟩ | ⟨s1, ds, t, s2, s3⟩
    · rw [s2]; simp only [bindO_some]
      rw [if_pos trivial, if_neg (by decide)]; rfl
    · have hsh : shL l ds 0 := hlc ▸ (shL_zero hfr).1 s3.sh
      have hmem := leastL_mem (cs := cs) (show 0 < (c :: r).length by simp) (shL_len s3.sh)
      rw [← hlc] at hmem
      have hbl := s3.least
      rw [← hlc] at hbl
      rw [← hbl] at hmem
      have hsm := gains_sm hv hn hcl _ hmem
      have htv : vGn t := sm_vGn hsm
      have hgs : ∀ g ∈ gainsL cs l ds, ¬ mt t g := by
        intro g hg'
        have hall := gains_sm (ds := ds) hv hn hcl
        have hll : leastL cs l ds = match gainsL cs l ds with | [] => ⟨0, 1⟩ | g :: r => lstG g r := rfl
        cases hq : gainsL cs l ds with
        | nil => rw [hq] at hg'; simp at hg'
        | cons g0 gs =>
          rw [hq] at hll hg' hall
          have hll : leastL cs l ds = lstG g0 gs := hll
          rw [hbl, hll]
          exact lstG_least gs g0 (fun x hx => by have := (hall x hx).1; unfold smG at this; omega) g hg'
      have htn : 0 ≤ t.num ∧ 0 ≤ t.den := by have := hsm.1; unfold smG at this; omega
      rw [s2]
      simp only [bindO_some]
      rw [if_pos trivial, if_pos trivial]
      obtain ⟨i, i1, i2, i3⟩ := F56_eq p.b l.length (by omega) (by omega)
      obtain ⟨q, q1, q2, q3⟩ := F56_eq p.a 4 (by omega) (by omega)
      have hx : l[i.toNat]? = some (l[i.toNat]'(by omega)) := List.getElem?_eq_getElem _
      have hxm := List.mem_of_getElem? hx
      have hxv := hcl _ hxm
      have hxt := hto _ hxm
      rw [i1, bindO_some, gdO_pos (by omega), q1, bindO_some]
      generalize (l[i.toNat]'(by omega)) = x at *
      have hxv' := hxv
      unfold vCl at hxv'
      -- a claim that is at least as good
      have set1 : ∀ y : Cl, vCl y → y.to < cs.length → y.fam = x.fam → (y.fr ≤ x.fr ∧ x.to ≤ y.to ∧ y.hd ≤ x.hd) → ∃ t', F37 N chs cs (l.set i.toNat y) = some (t'.num, t'.den, 0) ∧ vGn t' ∧ ¬ mt t t' := fun y y1 y2 y3 y4 => by
        have hrel := relL_set y4 l i.toNat hx
        have hok : okC cs (l.set i.toNat y) := ⟨by simpa using hl, okL_set ⟨y1, y2, y3⟩ l i.toNat [] hx hc.2⟩
        cases hl2 : l.set i.toNat y with
        | nil => have := congrArg List.length hl2; simp at this; simp [this] at hl
        | cons c' r' =>
          rw [hl2] at hrel hok
          exact F37_more N hN1 chs cs c' r' t hsm hg hok ds (shL_rel hrel hsh) (gains_rel hv hn hv hn (fun a b => Int.le_refl _) htn hrel hcl (fun z hz => (okL_all _ _ _ hok.2 z hz).1) hgs)
      by_cases k0 : q = 0
      · rw [if_pos k0, gdO_pos (by omega), hx, bindO_some, ckO_pos (by unfold InR; omega), List.getElem?_set, if_pos rfl, if_pos (by omega), bindO_some, List.set_set]
        exact F9j3_eq N chs cs cs l _ t htv (set1 _ (by unfold vCl; dsimp only; omega) (by dsimp only; omega) rfl (by dsimp only; omega))
      · rw [if_neg k0]
        by_cases k1 : q = 1
        · rw [if_pos k1, gdO_pos (by omega), hx, bindO_some]
          exact F9j3_eq N chs cs cs l _ t htv (set1 _ (by unfold vCl; dsimp only; omega) hxt rfl (by dsimp only; omega))
        · rw [if_neg k1]
          by_cases k2 : q = 2
          · rw [if_pos k2, gdO_pos (by omega), gdO_pos (by omega), gdO_pos (by omega), gdO_pos (by simp; omega), ckO_pos (by unfold InR; omega), gdO_pos (by omega), gdO_pos (by omega), gdO_pos (by simp; omega), show (i + 1).toNat = i.toNat + 1 by omega]
            have hlen : (l.take i.toNat ++ l.drop (i.toNat + 1)).length = l.length - 1 := by simp; omega
            by_cases k3 : ((l.take i.toNat ++ l.drop (i.toNat + 1)).length : Int) = 0
            · rw [if_pos k3]
            · rw [if_neg k3]
              refine F9j3_eq N chs cs cs l _ t htv ?_
              have hok : okC cs (l.take i.toNat ++ l.drop (i.toNat + 1)) := ⟨by omega, okL_del l i.toNat [] hc.2⟩
              have hsh2 := shL_del i.toNat hsh
              have hgs2 : ∀ g ∈ gainsL cs (l.take i.toNat ++ l.drop (i.toNat + 1)) (ds.take i.toNat ++ ds.drop (i.toNat + 1)), ¬ mt t g := fun g hg' => hgs g (gains_del cs l ds i.toNat g hg' (shL_len hsh))
              cases hl2 : l.take i.toNat ++ l.drop (i.toNat + 1) with
              | nil => rw [hl2] at k3; simp at k3
              | cons c' r' =>
                rw [hl2] at hok hsh2 hgs2
                exact F37_more N hN1 chs cs c' r' t hsm hg hok _ hsh2 hgs2
          · have k3 : q = 3 := by omega
            rw [if_neg k2, if_pos k3]
            obtain ⟨k, u1, u2, u3⟩ := F56_eq p.b cs.length (by omega) (by omega)
            obtain ⟨w, w1, w2, w3⟩ := F56_eq p.b 7 (by omega) (by omega)
            have hz : cs[k.toNat]? = some (cs[k.toNat]'(by omega)) := List.getElem?_eq_getElem _
            have hzm := List.mem_of_getElem? hz
            have hzv := hv _ hzm
            have hzw := hm.wo _ hzm
            rw [u1, bindO_some, gdO_pos (by omega), hz, bindO_some]
            generalize (cs[k.toNat]'(by omega)) = z at *
            have hzv' := hzv
            unfold vCe at hzv'
            rw [ckO_pos (by unfold InR; omega), w1, bindO_some, ckO_pos (by unfold InR; omega)]
            refine F9j3_eq N chs cs _ l l t htv ?_
            have hg2 : okG chs (cs.set k.toNat ⟨z.ch, z.ln, z.wo + 1 + w⟩) := okG_set hg hz ⟨by unfold vCe; dsimp only; omega, rfl⟩
            have hok : okC (cs.set k.toNat ⟨z.ch, z.ln, z.wo + 1 + w⟩) l := ⟨hl, by rw [List.length_set]; exact hc.2⟩
            have hres := gains_rel hv hn (okG_ces hg2) hg2.2.1.2 (fun a b => worth_set (y := ⟨z.ch, z.ln, z.wo + 1 + w⟩) hz (by dsimp only; omega) a b) htn (relL_refl l) hcl hcl hgs
            rw [hlc] at hok hsh hres ⊢
            exact F37_more N hN1 chs _ c r t hsm hg2 hok ds hsh hres
theorem more4 (r0 : List A2) (r1 r2 : List A3) (p : A2) : F9 (100000000000000 + 60) r0 r1 r2 p = some true := more_any _ (Nat.le_add_right _ _) (sane4 _) r0 r1 r2 p
end Go.K
