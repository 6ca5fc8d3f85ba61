/- Demands and crowds, of the program and of the reference: MillCrowds. No condition. -/
import Derived.Test.YtofnbcfjdngakaaPYf
namespace Go.K
open Go.RowKit
set_option linter.unusedVariables false
set_option linter.unusedSimpArgs false
theorem F8688 {N : Nat} (h : Int) (l : List Cm) (d : List Int) (hd : d.length ≤ 9223372036854775807) (hN : d.length + 2000 ≤ N) : ∃ e, F86 N h l d = some e ∧ F88 N h l d = some e ∧ (e = 0 → okM h l ∧ d.length = l.length ∧ ∀ x ∈ d, 0 ≤ x ∧ x ≤ 24) ∧ (e = 0 ∨ e = 52 ∨ e = 56) := by
  obtain ⟨z, e23, e24, hz, ok⟩ := F2324 N h l (by omega)
  unfold F86 F88
  rw [e23, bindO_some, e24, bindO_some]
  rcases hz with rfl | rfl
  · have hn := (ok rfl).2.1
    rw [if_pos rfl, if_pos rfl]
    have loop86 : ∀ (m i : Nat), i ≤ d.length → d.length < m + i → ∃ e, F86l1 d m (i : Int) = some e ∧ F88l2 l d m (i : Int) = (if e = 0 then F88j1 l d else some 56) ∧ (e = 0 ∨ e = 56) ∧ (e = 0 → ∀ (j : Nat) x, i ≤ j → d[j]? = some x → 0 ≤ x ∧ x ≤ 24) := by
      intro m
      induction m with
      | zero => intro i g1 g2; omega
      | succ m ih =>
        intro i g1 g2
        show ∃ e, F86b1 d (F86l1 d m) (i : Int) = some e ∧ F88b2 l d (F88l2 l d m) (i : Int) = _ ∧ _
        unfold F86b1 F88b2
        rcases drop_cases d i with ⟨hi, _⟩ | ⟨x, hi, hx, _⟩
        · rw [if_neg (by omega), if_neg (by omega)]
          refine ⟨0, rfl, rfl, .inl rfl, fun _ j x hj hx => ?_⟩
          have := (List.getElem?_eq_some_iff.1 hx).1; omega
        · rw [if_pos (by omega), if_pos (by omega), gdO_pos (by omega), gdO_pos (by omega), Int.toNat_natCast, hx, bindO_some, bindO_some, F70_eq, F71_eq, bindO_some, bindO_some]
          by_cases hb : 0 ≤ x ∧ x ≤ 24
          · rw [decide_eq_true hb, if_pos rfl, if_pos rfl, ckO_pos (by unfold InR; omega), ckO_pos (by unfold InR; omega), succ_cast]
            obtain ⟨e, a1, a2, a3, a4⟩ := ih (i + 1) hi (by omega)
            refine ⟨e, a1, a2, a3, fun he j y hj hy => ?_⟩
            rcases Nat.eq_or_lt_of_le hj with q | q
            · subst q; rw [hx] at hy; injection hy with hy; subst hy; exact hb
            · exact a4 he j y q hy
          · rw [decide_eq_false hb, if_neg (by decide), if_neg (by decide)]
            exact ⟨56, rfl, rfl, .inr rfl, fun q => by omega⟩
    obtain ⟨e, a1, a2, a3, a4⟩ := loop86 N 0 (by omega) (by omega)
    rw [show ((0 : Nat) : Int) = 0 from rfl] at a1 a2
    rw [a1, a2]
    unfold F88j1
    by_cases hl : (d.length : Int) = (l.length : Int)
    · rw [if_pos hl, if_pos hl]
      refine ⟨e, rfl, ?_, fun he => ⟨ok rfl, by omega, fun x hx => ?_⟩, a3.imp id .inr⟩
      · rcases a3 with rfl | rfl
        · rw [if_pos rfl]
        · rw [if_neg (by decide)]
      · obtain ⟨j, hj⟩ := List.mem_iff_getElem?.1 hx
        exact a4 he j x (Nat.zero_le _) hj
    · rw [if_neg hl, if_neg hl]
      refine ⟨56, rfl, ?_, fun q => by omega, .inr (.inr rfl)⟩
      split <;> rfl
  · rw [if_neg (by decide), if_neg (by decide)]
    exact ⟨52, rfl, rfl, fun q => by omega, .inr (.inl rfl)⟩
theorem or_ltH {a b : Int} {H : Nat} (ha : 0 ≤ a ∧ a < 2 ^ H) (hb : 0 ≤ b ∧ b < 2 ^ H) : 0 ≤ orI a b ∧ orI a b < 2 ^ H := by
  have hpc : (2 : Int) ^ H = ((2 ^ H : Nat) : Int) := by rw [Int.natCast_pow]; rfl
  unfold orI
  have h3 := Nat.or_lt_two_pow (show a.toNat < 2 ^ H by omega) (show b.toNat < 2 ^ H by omega)
  omega
theorem F51_eq {H : Nat} {l : List Cm} (ok : okM (H : Int) l) {d : List Int} (hd : d.length = l.length) (hb : ∀ x ∈ d, 0 ≤ x ∧ x ≤ 24) (fs : List Int) {N : Nat} (hN : 2000 ≤ N) (h88 : F88 N (H : Int) l d = some 0) : F51 N (H : Int) l d fs = some (if acc l d fs 0 0 [] = true then 0 else 54) := by
  have hn := ok.2.1
  have hH := ok.1
  have hH' : H ≤ 24 := by omega
  have hp24 : ∀ n, n < 25 → (1 : Int) ≤ 2 ^ n ∧ (2 : Int) ^ n ≤ 16777216 := by decide
  have hpH := hp24 H (by omega)
  have loop3 : ∀ (U : Int), (0 ≤ U ∧ U < 2 ^ H) → ∀ (m v : Nat) (a : Int), v ≤ H → H < m + v → -100 ≤ a + v → a ≤ 100000 → F51l3 (H : Int) U m a (v : Int) = F51j2 (a - (((List.range' v (H - v)).countP (bt U) : Nat) : Int)) := by
    intro U hU m
    induction m with
    | zero => intro v a g1 g2; omega
    | succ m ih =>
      intro v a g1 g2 g3 g4
      show F51b3 (H : Int) U (F51l3 (H : Int) U m) a (v : Int) = _
      unfold F51b3
      by_cases hv : v < H
      · have hp := p2_ck (k := v) (by omega)
        obtain ⟨w, hw⟩ : ∃ w, H - v = w + 1 := ⟨H - v - 1, by omega⟩
        have hw2 : H - (v + 1) = w := by omega
        rw [if_pos (by omega), gdO_pos (by omega), Int.toNat_natCast, p2_cast', ckO_pos (by unfold InR; omega), gdO_pos (by omega), gdO_pos (by omega), ckO_pos (by unfold InR; omega), hw, List.range'_succ, List.countP_cons]
        unfold F51j4
        cases e : bt U v with
        | false =>
          rw [if_pos ((and_bt2 v).2 e), ckO_pos (by unfold InR; omega), succ_cast, ih (v + 1) a (by omega) (by omega) (by omega) g4, hw2, if_neg (by decide)]
          rfl
        | true =>
          rw [if_neg (fun q => by rw [(and_bt2 v).1 q] at e; cases e), ckO_pos (by unfold InR; omega), ckO_pos (by unfold InR; omega), succ_cast, ih (v + 1) (a - 1) (by omega) (by omega) (by omega) (by omega), hw2, if_pos rfl]
          congr 1; omega
      · have e : v = H := by omega
        subst e
        rw [if_neg (by omega), Nat.sub_self]
        simp
  have fin : ∀ (U : Int) (dm : List Int), (0 ≤ U ∧ U < 2 ^ H) → (0 ≤ dm.sum ∧ dm.sum ≤ 24 * 100) → F51j1 (H : Int) N dm.sum U = some (if (decide ((nb U : Int) < dm.sum)) = true then 0 else 54) := fun U dm hU hs => by
    unfold F51j1
    have b3 := loop3 U hU N 0 dm.sum (by omega) (by omega) (by omega) (by omega)
    rw [show ((0 : Nat) : Int) = 0 from rfl] at b3
    rw [b3]
    have s1 := range_split (bt U) hH'
    have s2 : (List.range' H (24 - H)).countP (bt U) = 0 := List.countP_eq_zero.2 fun h hh hb => by
      have := bt_lt hU hb
      have := (List.mem_range'_1.1 hh).1
      omega
    unfold F51j2 nb
    rw [Nat.sub_zero]
    by_cases q : dm.sum - (((List.range' 0 H).countP (bt U) : Nat) : Int) ≤ 0
    · rw [if_pos q, if_neg (by rw [decide_eq_true_eq]; omega)]
    · rw [if_neg q, if_pos (by rw [decide_eq_true_eq]; omega)]
  have loop5 : ∀ (m k : Nat) (U last : Int) (dm : List Int), k ≤ fs.length → 100 < m + k → dm.length = k → k ≤ 99 → last ≤ 99 → (k : Int) ≤ last → (k = 0 → last = 0) → (∀ j, k = j + 1 → fs[j]? = some last) → (0 ≤ U ∧ U < 2 ^ H) → (0 ≤ dm.sum ∧ dm.sum ≤ 24 * k) →
      F51l5 (H : Int) l d fs N m dm.sum U (k : Int) = some (if acc l d (fs.drop k) U last dm = true then 0 else 54) := by
    intro m
    induction m with
    | zero => intro k U last dm g1 g2 g3 g4; omega
    | succ m ih =>
      intro k U last dm g1 g2 g3 g4 g5 g6 gz gl hU hs
      show F51b5 (H : Int) l d fs N (F51l5 (H : Int) l d fs N m) dm.sum U (k : Int) = _
      unfold F51b5
      rcases drop_cases fs k with ⟨hk, e⟩ | ⟨x, hk, hx, e⟩
      · rw [if_neg (by omega), e]
        unfold acc
        exact fin U dm hU ⟨hs.1, by omega⟩
      · rw [if_pos (by omega), gdO_pos (by omega), Int.toNat_natCast, hx, bindO_some, F65_eq N _ l x hn (by omega), bindO_some, e]
        unfold acc
        rcases ix_ge x l 0 with q | ⟨j, c, ej, hc, hf⟩
        · rw [q, if_pos (by decide)]
          simp
        · rw [Nat.zero_add] at ej
          rw [ej]
          have hj1 : ¬ ((j : Nat) : Int) = -1 := by omega
          have hj2 : ¬ ((j : Nat) : Int) < 0 := by omega
          simp only [if_neg hj1, if_neg hj2]
          have hj : j < l.length := (List.getElem?_eq_some_iff.1 hc).1
          have hvc := (okM_iff.1 ok).2.2.1 c (List.mem_iff_getElem?.2 ⟨j, hc⟩)
          have hvc' := hvc.1
          unfold vCm at hvc'
          rw [Int.toNat_natCast] at hvc
          obtain ⟨y, hy⟩ : ∃ y, d[j]? = some y := ⟨_, List.getElem?_eq_getElem (by omega)⟩
          have hyb := hb y (List.mem_iff_getElem?.2 ⟨j, hy⟩)
          have hyd : dF d j = y := by unfold dF; rw [hy]; rfl
          have go : ¬ x ≤ last → F51j6 l d (F51l5 (H : Int) l d fs N m) dm.sum U (k : Int) (j : Int) = some (if acc l d (fs.drop (k + 1)) (orI U c.hrs) x (dm ++ [y]) = true then 0 else 54) := fun hle => by
            unfold F51j6
            rw [gdO_pos (by omega), Int.toNat_natCast, hy, bindO_some, ckO_pos (by unfold InR; omega), hc, bindO_some, gdO_pos (by omega), gdO_pos (by omega), ckO_pos (by unfold InR; omega), ckO_pos (by unfold InR; omega), ckO_pos (by unfold InR; omega), succ_cast]
            have es : dm.sum + y = (dm ++ [y]).sum := by rw [List.sum_append]; simp
            rw [es]
            refine ih (k + 1) _ x _ hk (by omega) (by simp [g3]) (by omega) (by omega) (by omega) (by omega) (fun j hj => ?_) (or_ltH hU ⟨by omega, hvc.2⟩) ?_
            · have : j = k := by omega
              subst this; exact hx
            · rw [← es]; omega
          by_cases hk0 : 0 < (k : Int)
          · obtain ⟨k', rfl⟩ : ∃ k', k = k' + 1 := ⟨k - 1, by omega⟩
            rw [if_pos hk0, ckO_pos (by unfold InR; omega), gdO_pos (by omega), show (((k' + 1 : Nat) : Int) - 1).toNat = k' by omega, gl k' rfl, bindO_some]
            by_cases hle : x ≤ last
            · simp only [if_pos hle]; simp
            · simp only [if_neg hle]
              rw [go hle, Int.toNat_natCast, hc, ← hyd]
          · have hl0 := gz (by omega)
            have hle : ¬ x ≤ last := by omega
            rw [if_neg hk0]
            simp only [if_neg hle]
            rw [go hle, Int.toNat_natCast, hc, ← hyd]
  unfold F51
  rw [h88, bindO_some, if_pos rfl]
  have := loop5 N 0 0 0 [] (by omega) (by omega) rfl (by omega) (by omega) (by omega) (fun _ => rfl) (fun j hj => by omega) ⟨by omega, by omega⟩ (by simp)
  rw [List.sum_nil, List.drop_zero] at this
  exact this
theorem crowds_any (N : Nat) (h : Int) (l : List Cm) (d fs : List Int) (hd : d.length ≤ 9223372036854775807) (hN : d.length + 2100 ≤ N) (hs0 : F25 N = some true) : F6 N h l d fs = some true := by
  have sane : F6j2 N = some true := by unfold F6j2; rw [hs0]; rfl
  obtain ⟨e, e86, e88, he, _⟩ := F8688 h l d hd (N := N) (by omega)
  -- with nobody named
  obtain ⟨z, e23, e24, hz, okz⟩ := F2324 N h l (by omega)
  -- Unserved
  have un : ∃ w, F47 N h l = some w ∧ F49 N h l = some w.2 ∧ F6j1 h l N w = some true := by
    rcases hz with rfl | rfl
    · have ok := okz rfl
      obtain ⟨H, rfl, _⟩ := okM_C ok
      have hn := ok.2.1
      obtain ⟨w, ew, hw⟩ := F47_eq ok (N := N) (by omega)
      have hb1 : ∀ x ∈ l.map mn1, 0 ≤ x ∧ x ≤ 24 := fun x hx => by
        obtain ⟨c, hc, rfl⟩ := List.mem_map.1 hx
        have := ((okM_iff.1 ok).2.2.1 c hc).1
        unfold vCm at this
        unfold mn1; split <;> omega
      have hlm : (l.map mn1).length = l.length := by simp
      obtain ⟨f, f86, f88, hf, _⟩ := F8688 (H : Int) l (l.map mn1) (by omega) (N := N) (by omega)
      have f0 : f = 0 := by
        have := F86_ok ok (N := N) (by omega) hlm hb1
        rw [f86] at this; exact Option.some.inj this
      subst f0
      have e82 : F82 N (H : Int) l 1 = some (l.map mn1) := F82_eq _ (by omega) 1 (by omega)
      obtain ⟨P, b, e81, hb, _⟩ := F81_eq ok hlm hb1 (N := N) (by omega)
      have e45 : F45 N (H : Int) l (l.map mn1) = some (b, 0) := by unfold F45; rw [f88, bindO_some, if_pos rfl, e81, bindO_some]
      refine ⟨w, ew, ?_, ?_⟩
      · unfold F49 F48
        rw [e24, bindO_some, if_pos rfl, e82, bindO_some, e45, bindO_some]
        rcases hw with ⟨q, rfl⟩ | ⟨q, q2, _⟩
        · rw [if_pos (hb.2 q), if_pos rfl, bindO_some]
        · rw [if_neg (fun r => q (hb.1 r)), if_pos rfl, bindO_some, q2]
      · unfold F6j1
        rcases hw with ⟨q, rfl⟩ | ⟨q, q2, _, q3⟩
        · rw [if_neg (by decide), if_neg (by decide)]; exact sane
        · have e52 : F52 N (H : Int) l 1 = some (l.map mn1) := by unfold F52; rw [e82, bindO_some]
          rw [if_pos q2, e52, bindO_some, F51_eq ok hlm hb1 w.1 (by omega) f88, bindO_some, if_pos q3, if_pos rfl]; exact sane
    · refine ⟨([], 52), by unfold F47; rw [e23, bindO_some, if_neg (by decide)], by unfold F49; rw [e24, bindO_some, if_neg (by decide)], ?_⟩
      unfold F6j1
      rw [if_neg (by decide), if_neg (by decide)]; exact sane
  obtain ⟨w, ew, ew2, ew3⟩ := un
  unfold F6
  by_cases he0 : e = 0
  · obtain ⟨ok, hl, hb⟩ := he he0
    subst he0
    obtain ⟨H, rfl, _⟩ := okM_C ok
    obtain ⟨b, eb, hb2⟩ := F44_ok ok (N := N) (by omega) hl hb
    obtain ⟨P, b', e81, hb', _⟩ := F81_eq ok hl hb (N := N) (by omega)
    have hbb : b = b' := by
      cases b <;> cases b' <;> simp_all
    subst hbb
    have e45 : F45 N (H : Int) l d = some (b, 0) := by unfold F45; rw [e88, bindO_some, if_pos rfl, e81, bindO_some]
    obtain ⟨c, ec, hc⟩ := F46_eq ok hl hb (N := N) (by omega)
    have e48 : F48 N (H : Int) l d = some c.2 := by
      unfold F48
      rw [e45, bindO_some]
      rcases hc with ⟨q, rfl⟩ | ⟨q, q2, _⟩
      · rw [if_pos (hb2.2 q), if_pos rfl]
      · rw [if_neg (fun r => q (hb2.1 r)), if_pos rfl, q2]
    rw [eb, bindO_some, e45, bindO_some, ec, bindO_some, ew, bindO_some, if_pos rfl, if_pos rfl, e48, bindO_some, if_pos rfl, ew2, bindO_some, if_pos rfl, F50_eq ok hl hb fs (N := N) (by omega), bindO_some, F51_eq ok hl hb fs (by omega) e88, bindO_some, if_pos rfl]
    rcases hc with ⟨q, rfl⟩ | ⟨q, q2, _, q3⟩
    · rw [if_neg (by decide), if_neg (by decide)]; exact ew3
    · rw [if_pos q2, F51_eq ok hl hb c.1 (by omega) e88, bindO_some, if_pos q3, if_pos rfl]; exact ew3
  · have b44 : F44 N h l d = some (false, e) := by unfold F44; rw [e86, bindO_some, if_neg he0]
    have b45 : F45 N h l d = some (false, e) := by unfold F45; rw [e88, bindO_some, if_neg he0]
    have b46 : F46 N h l d = some ([], e) := by unfold F46; rw [e86, bindO_some, if_neg he0]
    have b48 : F48 N h l d = some e := by unfold F48; rw [b45, bindO_some, if_neg (show ¬ false = true by decide), ite_self]
    have b50 : F50 N h l d fs = some e := by unfold F50; rw [e86, bindO_some, if_neg he0]
    have b51 : F51 N h l d fs = some e := by unfold F51; rw [e88, bindO_some, if_neg he0]
    rw [b44, bindO_some, b45, bindO_some, b46, bindO_some, ew, bindO_some, if_pos rfl, if_pos rfl, b48, bindO_some, if_pos rfl, ew2, bindO_some, if_pos rfl, b50, bindO_some, b51, bindO_some, if_pos rfl, if_neg he0, if_neg (show ¬ 0 < (([] : List Int).length : Int) by decide)]
    exact ew3
theorem crowds5 (h : Int) (l : List Cm) (d fs : List Int) (hd : d.length ≤ 9223372036854775807) : F6 (d.length + 2100) h l d fs = some true := crowds_any _ h l d fs hd (Nat.le_refl _) (sane5n _ (by omega))
end Go.K
