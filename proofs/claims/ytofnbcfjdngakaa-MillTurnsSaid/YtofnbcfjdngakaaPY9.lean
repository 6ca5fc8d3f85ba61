/- MillTurns: of two who come alike the earlier has no fewer hours, and at most one more; nobody has more than wanted, or than there are to come at. No condition. -/
import Derived.Test.YtofnbcfjdngakaaPY7
namespace Go.K
open Go.RowKit
set_option linter.unusedVariables false
set_option linter.unusedSimpArgs false
theorem and_bt {x : Int} (k : Nat) : (andI x ((2 ^ k : Nat) : Int) = 0) ↔ bt x k = false := by
  unfold andI bt
  rw [Int.toNat_natCast]
  generalize x.toNat = n
  constructor
  · intro q
    have q2 : n &&& 2 ^ k = 0 := by omega
    have := congrArg (fun z => Nat.testBit z k) q2
    simp only [Nat.testBit_and, Nat.testBit_two_pow_self, Bool.and_true, Nat.zero_testBit] at this
    exact this
  · intro q
    have : n &&& 2 ^ k = 0 := Nat.eq_of_testBit_eq fun i => by
      rw [Nat.testBit_and, Nat.testBit_two_pow, Nat.zero_testBit]
      by_cases e : k = i
      · subst e; rw [q]; rfl
      · rw [decide_eq_false e, Bool.and_false]
    rw [this]; rfl
theorem count_bits {p : Nat → Bool} {j : Int} : ∀ (R : List Int) (s : Nat), (∀ (h : Nat), R[h]? = some j → p (s + h) = true) → R.count j ≤ (List.range' s R.length).countP p
  | [], _, _ => by simp
  | x :: R, s, h => by
    have ih := count_bits R (s + 1) fun i hi => by have := h (i + 1) (by simpa using hi); rw [show s + 1 + i = s + (i + 1) by omega]; exact this
    rw [List.count_cons, List.length_cons, List.range'_succ, List.countP_cons]
    by_cases e : x = j
    · have := h 0 (by rw [e]; rfl)
      rw [Nat.add_zero] at this
      rw [if_pos (beq_iff_eq.2 e), if_pos this]; omega
    · rw [if_neg (by simpa using e)]; omega
theorem F14_ok {h : Int} {l : List Cm} {c : Cm} (ok : okM h l) (ok2 : okM h (l ++ [c])) (hn : l.length < 12) {N : Nat} (hN : 100 ≤ N) : F14 N h l c = some (h, l ++ [c], 0) := by
  unfold F14
  obtain ⟨t, et, ht⟩ := F63_eq N h l c ok.1 ok.2.1 hN
  have hf := ok2.2.2 l.length c (by rw [List.getElem?_append_right (Nat.le_refl _)]; simp)
  rw [List.take_left] at hf
  rw [F23_ok ok hN, bindO_some, if_pos rfl, et, bindO_some, ht.2 hf, if_pos rfl, if_neg (by omega)]
  unfold F64
  rw [gdO_pos (by omega), bindO_some, gdO_pos (by omega)]
theorem turns_any (N : Nat) (hN : 2100 ≤ N) (hs0 : F25 N = some true) (p : Int) (q : List A2) (r : Int) : F11 N p q r = some true := by
  obtain ⟨H, l, e0, hH, ok, hn, hf⟩ := F60_eq p q (N := N) (by omega)
  unfold F11
  rw [e0, bindO_some]
  by_cases hl0 : (l.length : Int) = 0
  · rw [if_pos hl0, hs0]; rfl
  rw [if_neg hl0]
  obtain ⟨z, ez, z0, z1⟩ := F59_ok r (l.length : Int) (by omega) (by omega)
  obtain ⟨k, rfl⟩ : ∃ k : Nat, z = k := ⟨z.toNat, by omega⟩
  have hk : k < l.length := by omega
  have hc : l[k]? = some l[k] := List.getElem?_eq_getElem hk
  generalize l[k] = c at hc
  obtain ⟨m1, m2, m3, m4⟩ := okM_iff.1 ok
  have hvc := m3 c (List.mem_iff_getElem?.2 ⟨k, hc⟩)
  have hvc' := hvc.1
  unfold vCm at hvc'
  obtain ⟨c', hc'⟩ : ∃ c' : Cm, c' = ⟨50, c.hrs, c.wants⟩ := ⟨_, rfl⟩
  have ok2 : okM (H : Int) (l ++ [c']) := by
    refine okM_iff.2 ⟨m1, by rw [List.length_append]; simp; omega, fun d hd => ?_, ?_⟩
    · rcases List.mem_append.1 hd with hd | hd
      · exact m3 d hd
      · have e := List.mem_singleton.1 hd
        subst e; subst hc'
        exact ⟨⟨show (1 : Int) ≤ 50 ∧ (50 : Int) ≤ 99 by decide, hvc'.2⟩, hvc.2⟩
    · rw [List.map_append, List.nodup_append]
      refine ⟨m4, by simp, fun a ha b hb => ?_⟩
      obtain ⟨d, hd, rfl⟩ := List.mem_map.1 ha
      have hb' : b = 50 := by subst hc'; simpa using hb
      have h9 := hf d hd
      intro q
      have q2 : d.fam = b := q
      omega
  obtain ⟨R, hs, e1, f1, f2, f3, f4, f5⟩ := F80_eq ok2 (N := N) (by omega)
  have hlen : hs.length = l.length + 1 := by rw [f3, List.length_append]; rfl
  have hck : (l ++ [c'])[k]? = some c := by rw [List.getElem?_append_left hk]; exact hc
  have hcn : (l ++ [c'])[l.length]? = some c' := by rw [List.getElem?_append_right (Nat.le_refl _)]; simp
  have hL : (l ++ [c']).length = l.length + 1 := by simp
  have gk := f4 k (by omega)
  have gn := f4 l.length (by omega)
  have hh : c'.hrs = c.hrs := by rw [hc']
  have hw : c'.wants = c.wants := by rw [hc']
  have le1 : cnt R l.length ≤ cnt R k := by
    rcases (f5 k c hck).2 with q | ⟨A, a1, a2, a3⟩
    · have := (f5 _ c' hcn).1; omega
    · obtain ⟨d, hd, hs⟩ := inS_iff.1 a1
      rw [hck] at hd; injection hd with hd; subst hd
      exact (a3 l.length (by omega) (inS_iff.2 ⟨c', hcn, by rw [hh]; exact hs⟩)).2 hk
  have le2 : cnt R k ≤ cnt R l.length + 1 := by
    rcases (f5 _ c' hcn).2 with q | ⟨A, a1, a2, a3⟩
    · have := (f5 k c hck).1; omega
    · obtain ⟨d, hd, hs⟩ := inS_iff.1 a1
      rw [hcn] at hd; injection hd with hd; subst hd
      exact (a3 k (by omega) (inS_iff.2 ⟨c, hck, by rw [← hh]; exact hs⟩)).1
  have cb : ∀ j d, (l ++ [c'])[j]? = some d → cnt R j ≤ d.wants ∧ d.wants ≤ 24 := fun j d hd => by
    have := (f5 j d hd).1
    have hv := ((okM_iff.1 ok2).2.2.1 d (List.mem_iff_getElem?.2 ⟨j, hd⟩)).1
    unfold vCm at hv
    exact ⟨this, hv.2.2.2⟩
  have cbk := cb k c hck
  have cbn := cb _ c' hcn
  have nn := cnt_nn R l.length
  rw [ez, bindO_some, gdO_pos (by omega), Int.toNat_natCast, hc, bindO_some, ← hc', F14_ok ok ok2 (by omega) (by omega), bindO_some, F80_hs ok2 (by omega) e1, bindO_some, if_pos rfl, if_pos rfl, ckO_pos (show InR (((l.length : Nat) : Int) + 1) by unfold InR; omega), if_pos (show (hs.length : Int) = (l.length : Int) + 1 by omega),
    ckO_pos (show InR ((hs.length : Int) - 1) by unfold InR; omega), gdO_pos (show 0 ≤ (hs.length : Int) - 1 by omega), show ((hs.length : Int) - 1).toNat = l.length by omega]
  have gn' : ((hs, (0 : Int)).1)[l.length]? = some (cnt R l.length) := gn
  have gk' : ((hs, (0 : Int)).1)[k]? = some (cnt R k) := gk
  rw [gn', bindO_some, gk', bindO_some, if_neg (show ¬ cnt R k < cnt R l.length by omega), ckO_pos (by unfold InR; omega), if_neg (show ¬ cnt R l.length + 1 < cnt R k by omega)]
  have sane : F11j1 N = some true := by unfold F11j1; rw [hs0]; rfl
  have loop5 : ∀ (rec2 : Int → Option Bool) (i : Nat) (d : Cm), (l ++ [c'])[i]? = some d → ∀ (m v : Nat) (n : Nat), v ≤ H → H < m + v → n ≤ v →
      F11l5 rec2 ((H : Int), l ++ [c'], 0) (hs, 0) (i : Int) m (n : Int) (v : Int) = F11j4 rec2 ((H : Int), l ++ [c'], 0) (hs, 0) (i : Int) (((n + (List.range' v (H - v)).countP (bt d.hrs) : Nat)) : Int) := by
    intro rec2 i d hd m
    have hdb := (okM_iff.1 ok2).2.2.1 d (List.mem_iff_getElem?.2 ⟨i, hd⟩)
    have hdv := hdb.1
    unfold vCm at hdv
    induction m with
    | zero => intro v n g1 g2; omega
    | succ m ih =>
      intro v n g1 g2 g3
      show F11b5 rec2 ((H : Int), l ++ [c'], 0) (hs, 0) (i : Int) (F11l5 rec2 ((H : Int), l ++ [c'], 0) (hs, 0) (i : Int) m) (n : Int) (v : Int) = _
      unfold F11b5
      by_cases hv : v < H
      · have hp := p2_ck (k := v) (by omega)
        have hd' : (((H : Int), l ++ [c'], (0 : Int)).2.1)[i]? = some d := hd
        rw [if_pos (show (v : Int) < (H : Int) by omega), gdO_pos (by omega), Int.toNat_natCast, hd', bindO_some, gdO_pos (by omega), Int.toNat_natCast, p2_cast', ckO_pos (by unfold InR; omega), gdO_pos (by omega), gdO_pos (by omega), ckO_pos (by unfold InR; omega)]
        obtain ⟨w, hw⟩ : ∃ w, H - v = w + 1 := ⟨H - v - 1, by omega⟩
        rw [hw, List.range'_succ, List.countP_cons]
        have hw2 : H - (v + 1) = w := by omega
        unfold F11j6
        cases e : bt d.hrs v with
        | false =>
          rw [if_pos ((and_bt v).2 e), ckO_pos (by unfold InR; omega), succ_cast, ih (v + 1) n (by omega) (by omega) (by omega), hw2]
          rfl
        | true =>
          rw [if_neg (fun q => by rw [(and_bt v).1 q] at e; cases e), ckO_pos (by unfold InR; omega), ckO_pos (by unfold InR; omega), succ_cast, succ_cast, ih (v + 1) (n + 1) (by omega) (by omega) (by omega), hw2, if_pos rfl, show n + 1 + List.countP (bt d.hrs) (List.range' (v + 1) w) = n + (List.countP (bt d.hrs) (List.range' (v + 1) w) + 1) by omega]
      · have e : v = H := by omega
        subst e
        rw [if_neg (show ¬ (v : Int) < (v : Int) by omega), Nat.sub_self]
        rfl
  have loop2 : ∀ (m i : Nat), i ≤ l.length + 1 → l.length + 1 < m + i → F11l2 N ((H : Int), l ++ [c'], 0) (hs, 0) m (i : Int) = some true := by
    intro m
    induction m with
    | zero => intro i g1 g2; omega
    | succ m ih =>
      intro i g1 g2
      show F11b2 N ((H : Int), l ++ [c'], 0) (hs, 0) (F11l2 N ((H : Int), l ++ [c'], 0) (hs, 0) m) (i : Int) = _
      unfold F11b2
      by_cases hi : i < l.length + 1
      · have hd : (l ++ [c'])[i]? = some (l ++ [c'])[i] := List.getElem?_eq_getElem (by omega)
        generalize (l ++ [c'])[i] = d at hd
        have b5 := loop5 (F11l2 N ((H : Int), l ++ [c'], 0) (hs, 0) m) i d hd N 0 0 (by omega) (by omega) (by omega)
        rw [show ((0 : Nat) : Int) = 0 from rfl] at b5
        rw [if_pos (show (i : Int) < (hs.length : Int) by omega), b5]
        unfold F11j4 F11j3
        have hd' : (((H : Int), l ++ [c'], (0 : Int)).2.1)[i]? = some d := hd
        have gi' : ((hs, (0 : Int)).1)[i]? = some (cnt R i) := f4 i (by omega)
        have w1 := (f5 i d hd).1
        have w2 : cnt R i ≤ (((0 + (List.range' 0 (H - 0)).countP (bt d.hrs) : Nat)) : Int) := by
          unfold cnt
          have := count_bits (p := bt d.hrs) (j := (i : Int)) R 0 fun h hx => by
            rcases f1 h _ hx with q | ⟨_, d', hd2, hb⟩
            · omega
            · rw [Int.toNat_natCast, hd] at hd2; injection hd2 with hd2; subst hd2
              rw [Nat.zero_add]; exact hb
          rw [f2, Int.toNat_natCast] at this
          rw [Nat.sub_zero]; omega
        rw [gdO_pos (by omega), Int.toNat_natCast, gi', bindO_some, hd', bindO_some, if_neg (by omega), if_neg (by omega), ckO_pos (by unfold InR; omega), succ_cast]
        exact ih (i + 1) (by omega) (by omega)
      · rw [if_neg (show ¬ (i : Int) < (hs.length : Int) by omega)]; exact sane
  exact loop2 N 0 (by omega) (by omega)
theorem turns5 (p : Int) (q : List A2) (r : Int) : F11 (0 + 2100) p q r = some true := turns_any _ (by omega) (sane5 _) p q r
end Go.K
