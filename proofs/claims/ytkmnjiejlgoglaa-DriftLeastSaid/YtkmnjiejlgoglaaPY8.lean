/- DriftLeast answers true: the sharing that is found is the best one, and walls are right. No condition. -/
import Derived.Test.YtkmnjiejlgoglaaPY7
namespace Go.K
open Go.RowKit
set_option linter.unusedVariables false
set_option linter.unusedSimpArgs false
theorem mt_trans {a b c : Gn} (ha : 0 < a.den) (hb : 0 < b.den) (hc : 0 < c.den) (h1 : mt a b) (h2 : mt b c) : mt a c := by
  unfold mt at *
  have e1 := Int.mul_lt_mul_of_pos_right h1 hc
  have e2 := Int.mul_lt_mul_of_pos_right h2 ha
  have f1 : b.num * a.den * c.den = b.num * c.den * a.den := by ac_rfl
  have f2 : a.num * b.den * c.den = a.num * c.den * b.den := by ac_rfl
  have f3 : c.num * b.den * a.den = c.num * a.den * b.den := by ac_rfl
  have : c.num * a.den * b.den < a.num * c.den * b.den := by omega
  exact Int.lt_of_mul_lt_mul_right this (by omega)
theorem mt_of_not {a g t : Gn} (ha : 0 < a.den) (hg : 0 < g.den) (ht : 0 < t.den) (h1 : ¬ mt a g) (h2 : mt a t) : mt g t := by
  unfold mt at *
  have e1 := Int.mul_le_mul_of_nonneg_right (Int.not_lt.1 h1) (show 0 ≤ t.den by omega)
  have e2 := Int.mul_lt_mul_of_pos_right h2 hg
  have f1 : a.num * g.den * t.den = a.num * t.den * g.den := by ac_rfl
  have f2 : g.num * a.den * t.den = g.num * t.den * a.den := by ac_rfl
  have f3 : t.num * a.den * g.den = t.num * g.den * a.den := by ac_rfl
  have : t.num * g.den * a.den < g.num * t.den * a.den := by omega
  exact Int.lt_of_mul_lt_mul_right this (by omega)
theorem mt_ge {l g m : Gn} (hm : 0 < m.den) (hg : 0 < g.den) (hl : 0 < l.den) (h1 : ¬ mt m g) (h2 : mt l g) : mt l m := by
  unfold mt at *
  have e1 := Int.mul_le_mul_of_nonneg_right (Int.not_lt.1 h1) (show 0 ≤ l.den by omega)
  have e2 := Int.mul_lt_mul_of_pos_right h2 hm
  have f1 : m.num * g.den * l.den = m.num * l.den * g.den := by ac_rfl
  have f2 : g.num * m.den * l.den = g.num * l.den * m.den := by ac_rfl
  have f3 : l.num * g.den * m.den = l.num * m.den * g.den := by ac_rfl
  have : m.num * l.den * g.den < l.num * m.den * g.den := by omega
  exact Int.lt_of_mul_lt_mul_right this (by omega)
theorem lstG_least : ∀ (r : List Gn) (m : Gn), (∀ g ∈ m :: r, 0 < g.den) → ∀ g ∈ m :: r, ¬ mt (lstG m r) g
  | [], m, hd, g, hg => by
    simp only [List.mem_singleton] at hg; subst hg
    unfold lstG mt; omega
  | x :: r, m, hd, g, hg => by
    have hl := lstG_mem r
    unfold lstG
    by_cases hm : mt m x
    · rw [if_pos hm]
      have ih := lstG_least r x (fun g hg => hd g (by simp at hg ⊢; rcases hg with h | h <;> simp [h]))
      simp only [List.mem_cons] at hg
      rcases hg with rfl | hg
      · intro hc
        have d1 := hd _ (show lstG x r ∈ g :: x :: r by have := hl x; simp at this ⊢; rcases this with h | h <;> simp [h])
        exact ih x (by simp) (mt_trans d1 (hd g (by simp)) (hd x (by simp)) hc hm)
      · exact ih g (by simp only [List.mem_cons]; exact hg)
    · rw [if_neg hm]
      have ih := lstG_least r m (fun g hg => hd g (by simp at hg ⊢; rcases hg with h | h <;> simp [h]))
      simp only [List.mem_cons] at hg
      rcases hg with rfl | rfl | hg
      · exact ih g (by simp)
      · intro hc
        have d1 := hd _ (show lstG m r ∈ m :: g :: r by have := hl m; simp at this ⊢; rcases this with h | h <;> simp [h])
        exact ih m (by simp) (mt_ge (hd m (by simp)) (hd g (by simp)) d1 hm hc)
      · exact ih g (by simp [hg])
theorem sm_vGn {g : Gn} (h : smG g ∧ 0 ≤ g.num) : vGn g := by unfold smG at h; unfold vGn; omega
def cmpG (a b : Gn) : Int := if mt b a then -1 else if mt a b then 1 else 0
theorem F33_eq (a b : Gn) : F33 a b = some (if vGn a then (if vGn b then (cmpG a b, 0) else (0, 1)) else (0, 1)) := by
  unfold F33
  simp only [F78_eq, bindO_some, decide_eq_true_eq]
  by_cases ha : vGn a
  · rw [if_pos ha, if_pos ha]
    by_cases hb : vGn b
    · have ha' := ha; have hb' := hb
      unfold vGn at ha' hb'
      rw [if_pos hb, if_pos hb, F79_eq (by omega) (by omega) (by omega) (by omega), bindO_some]; rfl
    · rw [if_neg hb, if_neg hb]
  · rw [if_neg ha, if_neg ha]
theorem F33_vv {a b : Gn} (ha : vGn a) (hb : vGn b) : F33 a b = some (cmpG a b, 0) := by rw [F33_eq, if_pos ha, if_pos hb]
theorem cmpG_neg {a b : Gn} : cmpG a b < 0 ↔ mt b a := cmp_neg
theorem cmpG_pos {a b : Gn} : 0 < cmpG a b ↔ mt a b := cmp_pos
theorem F35l1_eq (gs : List Gn) (hn : gs.length ≤ 1000) : ∀ (m i : Nat) (a : List Gn), a.length = i → i ≤ gs.length → gs.length < m + i → F35l1 gs m a (i : Int) = some (a ++ gs.drop i, 0) := by
  intro m; induction m with
  | zero => intro i a ha h0 h; omega
  | succ m ih =>
    intro i a ha h0 h
    show F35b1 gs (F35l1 gs m) a (i : Int) = _
    unfold F35b1
    rcases drop_cases gs i with ⟨h1, h2⟩ | ⟨x, h1, h2, h3⟩
    · rw [if_neg (by omega), h2]; simp
    · rw [if_pos (by omega), gdO_pos (by omega), Int.toNat_natCast, h2, bindO_some, gdO_pos (by omega), ckO_pos (by unfold InR; omega), succ_cast, ih (i + 1) _ (by simp [ha]) (by omega) (by omega), h3]
      simp
theorem F35_eq (N : Nat) (chs : List Ch) (cs : List Ce) (l : List Cl) (ds : List Dr) (hg : okG chs cs) (hc : okC cs l) (hN : 101 ≤ N) : F35 N chs cs l ds = some (if shL l ds 0 then (gainsL cs l ds, 0) else ([], 46)) := by
  unfold F35
  have hl := hc.1
  have hcl : ∀ c ∈ l, vCl c := fun c h => (okL_all l _ _ hc.2 c h).1
  rw [F64_eq N chs cs l (by omega), if_pos hg, if_pos hc, bindS3_3]
  unfold F81
  by_cases h : ds.length = l.length
  · rw [if_pos (by omega)]
    have := F81l1_eq l ds hl.2 hcl h N 0 0 (by omega) (by omega)
    simp only [List.drop_zero, Int.natCast_zero] at this
    rw [this, bindO_some]
    by_cases h2 : shL l ds 0
    · have hfr := shL_fr h2 (fun x hx => by have := hcl x hx; unfold vCl at this; omega)
      rw [if_pos (by simpa using h2), if_pos h2, F82_eq N chs cs _ l ds hg.2.1.2 (okG_ces hg) hcl hfr hl.2 h hN, bindO_some]
      have hlen : (gainsL cs l ds).length ≤ 12 := by simp [gainsL]; omega
      have := F35l1_eq (gainsL cs l ds) (by omega) N 0 [] rfl (by omega) (by omega)
      simpa using this
    · rw [if_neg (by simpa using h2), if_neg h2]
  · rw [if_neg (by omega), bindO_some, if_neg (by decide), if_neg (fun h2 => h (shL_len h2))]
/-- What the third question of each list answers. -/
theorem F8j7_eq (p : Int) (ns : List Int) (q0 q1 : Int) (N : Nat) (rec : Int → Option Bool) (chs : List Ch) (cs : List Ce) (l : List Cl) (i : Int) (low : Gn) (hg : okG chs cs) (hc : okC cs l) (hi : 0 ≤ i ∧ i ≤ 10) (hl : vGn low) (hN : 101 ≤ N)
    (hno : mt low ⟨q0, q1⟩ → vGn ⟨q0, q1⟩ → ¬ wallOK cs l p ns ⟨q0, q1⟩) : F8j7 p ns q0 q1 N rec (chs, cs, l) i low.num low.den = rec (i + 1) := by
  have fin : F8j8 rec i = rec (i + 1) := by
    unfold F8j8 F8j4
    rw [ckO_pos (by unfold InR; omega)]
  unfold F8j7
  rw [fin]
  rw [F33_eq, bindO_some]
  by_cases h1 : vGn ⟨q0, q1⟩
  · rw [if_pos h1, if_pos (show vGn (⟨low.num, low.den⟩ : Gn) from hl), if_pos rfl]
    dsimp only
    by_cases h2 : cmpG ⟨q0, q1⟩ ⟨low.num, low.den⟩ < 0
    · rw [if_pos h2]
      obtain ⟨e, e1, e2⟩ := F47_eq N chs cs l p ns ⟨q0, q1⟩ hg hc hN
      rw [e1, bindO_some, if_neg (fun h => hno (cmpG_neg.1 h2) h1 (e2.1 h))]
    · rw [if_neg h2]
  · rw [if_neg h1, if_neg (by decide)]
theorem F8l9_eq (p : Int) (ns : List Int) (q0 q1 : Int) (N : Nat) (rec : Int → Option Bool) (y : List Ch × List Ce × List Cl) (y2 : Int × Int × Int) (v : Int) (gs : List Gn) (hg : ∀ g ∈ gs, vGn g) (hn : gs.length ≤ 100) : ∀ (m i : Nat) (g : Gn), vGn g → i ≤ gs.length → gs.length < m + i →
    F8l9 p ns q0 q1 N rec y y2 v gs m g.num g.den (i : Int) = F8j6 p ns q0 q1 N rec y y2 v (lstG g (gs.drop i)).num (lstG g (gs.drop i)).den := by
  intro m; induction m with
  | zero => intro i g hg' h0 h; omega
  | succ m ih =>
    intro i g hg' h0 h
    show F8b9 p ns q0 q1 N rec y y2 v gs (F8l9 p ns q0 q1 N rec y y2 v gs m) g.num g.den (i : Int) = _
    unfold F8b9 F8j10
    rcases drop_cases gs i with ⟨h1, h2⟩ | ⟨x, h1, h2, h3⟩
    · rw [if_neg (by omega), h2]; rfl
    · have hx := hg x (List.mem_of_getElem? h2)
      have e : (⟨g.num, g.den⟩ : Gn) = g := rfl
      rw [if_pos (by omega), gdO_pos (by omega), Int.toNat_natCast, h2, bindO_some, e, F33_vv hx hg', bindO_some, if_pos rfl, h3, ckO_pos (by unfold InR; omega), ckO_pos (by unfold InR; omega), succ_cast]
      conv => rhs; unfold lstG
      dsimp only
      by_cases hm : mt g x
      · rw [if_pos (cmpG_neg.2 hm), if_pos hm, ih (i + 1) x hx (by omega) (by omega)]
      · rw [if_neg (fun h => hm (cmpG_neg.1 h)), if_neg hm, ih (i + 1) g hg' (by omega) (by omega)]
/-- One list of drifts: a sharing, or none. -/
theorem F8j5_eq (p : Int) (ns : List Int) (q0 q1 : Int) (N : Nat) (rec : Int → Option Bool) (chs : List Ch) (cs : List Ce) (c : Cl) (r : List Cl) (i : Int) (ds best : List Dr) (t : Gn) (hg : okG chs cs) (hc : okC cs (c :: r)) (hi : 0 ≤ i ∧ i ≤ 10) (hb : Best cs c r best t) (ht : 0 ≤ t.num) (hs : shL (c :: r) ds 0) (h0 : i = 0 → ds = best) (hN : 101 ≤ N) :
    F8j5 p ns q0 q1 N rec (chs, cs, c :: r) (t.num, t.den, 0) i (gainsL cs (c :: r) ds) 0 = rec (i + 1) := by
  have hcl : ∀ x ∈ c :: r, vCl x := fun x h => (okL_all _ _ _ hc.2 x h).1
  have hv := okG_ces hg
  have hn := hg.2.1.2
  have hsm := gains_sm (ds := ds) hv hn hcl
  have hlen := shL_len hs
  have hmem := leastL_mem (cs := cs) (show 0 < (c :: r).length by simp) hlen
  have hwb := best_wall hv hn hcl hc.1.2 hb ht
  have htv : vGn t := sm_vGn ⟨hb.sm, ht⟩
  unfold F8j5
  rw [if_pos rfl]
  have hlen2 : (gainsL cs (c :: r) ds).length = (c :: r).length := by simp only [gainsL, List.length_zipWith]; omega
  have hll : leastL cs (c :: r) ds = match gainsL cs (c :: r) ds with | [] => ⟨0, 1⟩ | g :: r => lstG g r := rfl
  generalize hlow : leastL cs (c :: r) ds = low at *
  cases hq : gainsL cs (c :: r) ds with
  | nil => rw [hq] at hlen2; simp at hlen2
  | cons g gs =>
    rw [hq] at hll hsm hlen2 hmem
    have hl12 := hc.1.2
    have hlowv : vGn low := sm_vGn (hsm low hmem)
    rw [show (g :: gs)[0]? = some g from rfl, bindO_some]
    have := F8l9_eq p ns q0 q1 N rec (chs, cs, c :: r) (t.num, t.den, 0) i (g :: gs) (fun x hx => sm_vGn (hsm x hx)) (by omega) N 1 g (sm_vGn (hsm g (by simp))) (by simp) (by omega)
    simp only [Int.natCast_one, List.drop_succ_cons, List.drop_zero] at this
    have hll : low = lstG g gs := hll
    rw [this, ← hll]
    have hpos : ∀ x ∈ g :: gs, 0 < x.den := fun x hx => by have := (hsm x hx).1; unfold smG at this; omega
    have hleast : ∀ x ∈ g :: gs, ¬ mt low x := by rw [hll]; exact lstG_least gs g hpos
    have hnot : ∀ {f : Int} {ms : List Int} {u : Gn}, 0 < u.den → mt low u → ¬ wallOK cs (c :: r) f ms u := fun hu hm hw => wall_best hv hn hcl hw hs (by
      rw [hq]; intro x hx
      exact mt_of_not (hpos low hmem) (hpos x hx) hu (hleast x hx) hm)
    have hle : ¬ mt low t := fun hm => hnot (by have := hb.sm; unfold smG at this; omega) hm hwb
    unfold F8j6
    rw [F33_vv (show vGn (⟨low.num, low.den⟩ : Gn) from hlowv) (show vGn (⟨t.num, t.den⟩ : Gn) from htv), bindO_some, if_pos rfl]
    dsimp only
    rw [if_neg (fun h => hle (cmpG_pos.1 h))]
    have hfin := F8j7_eq p ns q0 q1 N rec chs cs (c :: r) i low hg hc hi hlowv hN (fun hm hv' hw => hnot (by unfold vGn at hv'; omega) hm hw)
    by_cases e : i = 0
    · have hds := h0 e
      have hlt : low = t := by rw [← hlow, hds, hb.least]
      rw [if_pos e, if_pos ?_, hfin]
      rw [hlt]
      show cmpG t t = 0
      unfold cmpG mt; simp
    · rw [if_neg e, hfin]
theorem F8l3_eq (p : Int) (ns : List Int) (q0 q1 : Int) (N : Nat) (chs : List Ch) (cs : List Ce) (c : Cl) (r : List Cl) (best other : List Dr) (e : Int) (t : Gn) (hg : okG chs cs) (hc : okC cs (c :: r)) (hb : Best cs c r best t) (ht : 0 ≤ t.num) (hN : 101 ≤ N) :
    F8l3 p ns q0 q1 N (chs, cs, c :: r) (t.num, t.den, 0) (best, e) other N 0 = some true := by
  obtain ⟨k, rfl⟩ : ∃ k, N = k + 3 := ⟨N - 3, by omega⟩
  generalize hK : k + 3 = K at *
  have hfr : 0 ≤ c.fr := by have := (okL_all _ _ _ hc.2 c (by simp)).1; unfold vCl at this; omega
  have s1 : F8l3 p ns q0 q1 K (chs, cs, c :: r) (t.num, t.den, 0) (best, e) other (k + 3) 0 = F8l3 p ns q0 q1 K (chs, cs, c :: r) (t.num, t.den, 0) (best, e) other (k + 2) 1 := by
    show F8b3 p ns q0 q1 K (chs, cs, c :: r) (t.num, t.den, 0) (best, e) other (F8l3 p ns q0 q1 K (chs, cs, c :: r) (t.num, t.den, 0) (best, e) other (k + 2)) 0 = _
    unfold F8b3
    have hs := (shL_zero hfr).1 hb.sh
    rw [if_pos (by decide), if_pos rfl, F35_eq K chs cs (c :: r) best hg hc hN, bindO_some, if_pos hs]
    exact F8j5_eq p ns q0 q1 K _ chs cs c r 0 best best t hg hc (by omega) hb ht hs (fun _ => rfl) hN
  have s2 : F8l3 p ns q0 q1 K (chs, cs, c :: r) (t.num, t.den, 0) (best, e) other (k + 2) 1 = F8l3 p ns q0 q1 K (chs, cs, c :: r) (t.num, t.den, 0) (best, e) other (k + 1) 2 := by
    show F8b3 p ns q0 q1 K (chs, cs, c :: r) (t.num, t.den, 0) (best, e) other (F8l3 p ns q0 q1 K (chs, cs, c :: r) (t.num, t.den, 0) (best, e) other (k + 1)) 1 = _
    unfold F8b3
    rw [if_pos (by decide), if_neg (by decide), if_pos rfl, F35_eq K chs cs (c :: r) other hg hc hN, bindO_some]
    by_cases hs : shL (c :: r) other 0
    · rw [if_pos hs]
      exact F8j5_eq p ns q0 q1 K _ chs cs c r 1 other best t hg hc (by omega) hb ht hs (fun h => by omega) hN
    · rw [if_neg hs]
      unfold F8j5
      rw [if_neg (by decide), if_neg (by decide)]
      unfold F8j4
      rw [ckO_pos (by decide)]; rfl
  have s3 : F8l3 p ns q0 q1 K (chs, cs, c :: r) (t.num, t.den, 0) (best, e) other (k + 1) 2 = some true := by
    show F8b3 p ns q0 q1 K (chs, cs, c :: r) (t.num, t.den, 0) (best, e) other (F8l3 p ns q0 q1 K (chs, cs, c :: r) (t.num, t.den, 0) (best, e) other k) 2 = _
    unfold F8b3
    rw [if_neg (by decide)]
  have : F8l3 p ns q0 q1 K (chs, cs, c :: r) (t.num, t.den, 0) (best, e) other (k + 3) 0 = some true := by rw [s1, s2, s3]
  rw [hK] at this
  exact this
theorem F8l11_eq (p : Int) (ns : List Int) (q0 q1 : Int) (n2 : List A2) (N : Nat) (chs : List Ch) (cs : List Ce) (c : Cl) (r : List Cl) (best : List Dr) (e : Int) (t : Gn) (hg : okG chs cs) (hc : okC cs (c :: r)) (hb : Best cs c r best t) (ht : 0 ≤ t.num) (hN : 101 ≤ N) : ∀ (m i : Nat) (ds : List Dr) (a : Int), ds.length = i → 0 ≤ a ∧ a ≤ 100 + 10 * i → i ≤ (c :: r).length → (c :: r).length < m + i →
    F8l11 p ns q0 q1 n2 N (chs, cs, c :: r) (t.num, t.den, 0) (best, e) m ds a (i : Int) = some true := by
  intro m; induction m with
  | zero => intro i ds a hd ha h0 h; omega
  | succ m ih =>
    intro i ds a hd ha h0 h
    have hl12 := hc.1.2
    show F8b11 p ns q0 q1 n2 N (chs, cs, c :: r) (t.num, t.den, 0) (best, e) (F8l11 p ns q0 q1 n2 N (chs, cs, c :: r) (t.num, t.den, 0) (best, e) m) ds a (i : Int) = _
    unfold F8b11
    dsimp only
    by_cases h1 : i < (c :: r).length
    · have step : ∀ k0 k1 : Int, F8j12 (F8l11 p ns q0 q1 n2 N (chs, cs, c :: r) (t.num, t.den, 0) (best, e) m) (chs, cs, c :: r) ds a (i : Int) k0 k1 = some true := fun k0 k1 => by
        unfold F8j12
        dsimp only
        have hx : (c :: r)[i]? = some ((c :: r)[i]'h1) := List.getElem?_eq_getElem _
        have hv := (okL_all _ _ _ hc.2 _ (List.mem_of_getElem? hx)).1
        generalize (c :: r)[i]'h1 = x at *
        unfold vCl at hv
        obtain ⟨u, u1, u2, u3⟩ := F56_eq k0 2 (by omega) (by omega)
        obtain ⟨w, w1, w2, w3⟩ := F56_eq k1 3 (by omega) (by omega)
        rw [gdO_pos (by omega), Int.toNat_natCast, hx, bindO_some, u1, bindO_some]
        have hh : 0 ≤ (if x.fr > a then x.fr else a) ∧ (if x.fr > a then x.fr else a) ≤ 100 + 10 * i := by split <;> omega
        generalize (if x.fr > a then x.fr else a) = z at *
        rw [ckO_pos (by unfold InR; omega), w1, bindO_some, ckO_pos (by unfold InR; omega), gdO_pos (by omega), ckO_pos (by unfold InR; omega), ckO_pos (by unfold InR; omega), succ_cast]
        exact ih (i + 1) _ _ (by simp [hd]) (by omega) (by omega) (by omega)
      rw [if_pos (by omega)]
      by_cases h2 : (i : Int) < (n2.length : Int)
      · have hx : n2[(i : Int).toNat]? = some (n2[(i : Int).toNat]'(by omega)) := List.getElem?_eq_getElem _
        rw [if_pos h2, gdO_pos (by omega), hx, bindO_some]; exact step _ _
      · rw [if_neg h2]; exact step _ _
    · rw [if_neg (by omega)]
      unfold F8j2
      exact F8l3_eq p ns q0 q1 N chs cs c r best ds e t hg hc hb ht hN
theorem least_any (N : Nat) (hN1 : 100000000000000 ≤ N) (hs : F11 N = some true) (r0 : List A2) (r1 r2 : List A3) (p : Int) (ns : List Int) (q0 q1 : Int) (n2 : List A2) : F8 N r0 r1 r2 p ns q0 q1 n2 = some true := by
  unfold F8
  rw [hs, bindO_some, if_pos rfl]
  unfold F8j1
  obtain ⟨chs, cs, l, h1, hm⟩ := F54_eq N r0 r1 r2 (by omega)
  rw [h1, bindO_some]
  dsimp only
  cases l with
  | nil => have := hm.c.1; simp at this
  | cons c r =>
    unfold F37 F49 F50
    have hcl : ∀ x ∈ c :: r, vCl x := fun x h => (okL_all _ _ _ hm.c.2 x h).1
    rcases F84_eq N chs cs c r hm.g hm.c hN1 with ⟨s1, s2⟩ | ⟨s1, ds, t, s2, s3⟩
    · rw [s2]; simp only [bindO_some]; rfl
    · have ht : 0 ≤ t.num := by
        have := leastL_mem (cs := cs) (show 0 < (c :: r).length by simp) (shL_len s3.sh)
        rw [← s3.least] at this
        exact (gains_sm (okG_ces hm.g) hm.g.2.1.2 hcl _ this).2
      have hw := best_wall (okG_ces hm.g) hm.g.2.1.2 hcl hm.c.1.2 s3 ht
      obtain ⟨e, e1, e2⟩ := F47_eq N chs cs (c :: r) 0 (c.fr :: (srch cs t (c :: r) c.fr).2.1) t hm.g hm.c (by omega)
      rw [s2]
      simp only [bindO_some]
      rw [if_pos trivial, if_pos trivial, if_pos trivial, if_pos trivial]
      show bindO (F47 N chs cs (c :: r) 0 (c.fr :: (srch cs t (c :: r) c.fr).2.1) t) _ = _
      rw [e1, bindO_some, if_pos (e2.2 hw)]
      exact F8l11_eq p ns q0 q1 n2 N chs cs c r ds 0 t hm.g hm.c s3 ht (by omega) N 0 [] 0 rfl (by omega) (by omega) (by have := hm.c.1; omega)
theorem least4 (r0 : List A2) (r1 r2 : List A3) (p : Int) (ns : List Int) (q0 q1 : Int) (n2 : List A2) : F8 (100000000000000 + 60) r0 r1 r2 p ns q0 q1 n2 = some true := least_any _ (Nat.le_add_right _ _) (sane4 _) r0 r1 r2 p ns q0 q1 n2
end Go.K
