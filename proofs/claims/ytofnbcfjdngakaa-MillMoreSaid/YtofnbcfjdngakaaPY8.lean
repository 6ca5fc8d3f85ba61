/- MillMore: the level with an hour more to come at, and without a family, is no less; whom Moved names. No condition. -/
import Derived.Test.YtofnbcfjdngakaaPY7
namespace Go.K
open Go.RowKit
set_option linter.unusedVariables false
set_option linter.unusedSimpArgs false
theorem F96_ok {l : List Int} (hn : l.length ≤ 1000) {k : Nat} (hk : k < l.length) : F96 l (k : Int) ((k : Int) + 1) = some (l.eraseIdx k) := by
  have hlen : (l.take k ++ l.drop (k + 1)).length ≤ l.length := by rw [List.length_append, List.length_take, List.length_drop]; omega
  unfold F96
  rw [gdO_pos (by omega), gdO_pos (by omega)]
  simp only [show ((k : Int) + 1).toNat = k + 1 by omega, Int.toNat_natCast]
  rw [gdO_pos (by omega), if_neg (by omega), gdO_pos (by omega), gdO_pos (by omega), gdO_pos hlen, gdO_pos (by omega), gdO_pos hlen, ← List.eraseIdx_eq_take_drop_succ]
theorem fam_at {h : Int} {l : List Cm} (ok : okM h l) {i j : Nat} {c d : Cm} (hc : l[i]? = some c) (hd : l[j]? = some d) (e : d.fam = c.fam) : j = i := by
  have a := ix_at ok hc
  have b := ix_at ok hd
  rw [e] at b; omega
theorem F57_ok {h : Int} {l : List Cm} (ok : okM h l) {N : Nat} (hN : 100 ≤ N) {k : Nat} {c : Cm} (hc : l[k]? = some c) {R hs R' hs' : List Int} (e1 : F80 N h l = some (h, R, hs)) (h1 : hs.length = l.length) (e2 : F80 N h (l.eraseIdx k) = some (h, R', hs')) (h2 : hs'.length = (l.eraseIdx k).length) :
    ∃ mv, F57 N h l c.fam = some (mv, 0) ∧ mv.length ≤ 12 ∧ ∀ x, x ∈ mv ↔ ∃ (j : Nat) (d : Cm), (l.eraseIdx k)[j]? = some d ∧ (hs.eraseIdx k)[j]? ≠ hs'[j]? ∧ d.fam = x := by
  have hk : k < l.length := (List.getElem?_eq_some_iff.1 hc).1
  have hn := ok.2.1
  have hfl : (l.eraseIdx k).length = l.length - 1 := List.length_eraseIdx_of_lt hk
  have hbl : (hs.eraseIdx k).length = l.length - 1 := by rw [List.length_eraseIdx_of_lt (by omega), h1]
  unfold F57
  rw [F66_ok ok hN hc, bindO_some, if_pos rfl, F67_ok hn hk, bindO_some, e1, bindO_some, ckO_pos (by unfold InR; omega), gdO_pos (show 0 < hs.length by omega), F96_ok (show hs.length ≤ 1000 by omega) (show k < hs.length by omega), bindO_some, e2, bindO_some]
  generalize l.eraseIdx k = few at *
  generalize hs.eraseIdx k = bef at *
  have loop : ∀ (m i : Nat) (o : List Int), i ≤ few.length → few.length < m + i → o.length ≤ i → ∃ o', F57l2 (h, few) bef (h, R', hs') m o (i : Int) = F57j1 o' ∧ o'.length ≤ few.length ∧ ∀ x, x ∈ o' ↔ x ∈ o ∨ ∃ (j : Nat) (d : Cm), i ≤ j ∧ few[j]? = some d ∧ bef[j]? ≠ hs'[j]? ∧ d.fam = x := by
    intro m
    induction m with
    | zero => intro i o g1 g2; omega
    | succ m ih =>
      intro i o g1 g2 g3
      show ∃ o', F57b2 (h, few) bef (h, R', hs') (F57l2 (h, few) bef (h, R', hs') m) o (i : Int) = _ ∧ _
      unfold F57b2
      rcases drop_cases few i with ⟨hi, _⟩ | ⟨d, hi, hd, _⟩
      · rw [if_neg (show ¬ (i : Int) < (few.length : Int) by omega)]
        refine ⟨o, rfl, by omega, fun x => ⟨.inl, fun q => q.elim id fun ⟨j, d, hj, hd, _⟩ => ?_⟩⟩
        have := (List.getElem?_eq_some_iff.1 hd).1; omega
      · have hb : bef[i]? = some bef[i] := List.getElem?_eq_getElem (by omega)
        have ha : hs'[i]? = some hs'[i] := List.getElem?_eq_getElem (by omega)
        rw [if_pos (show (i : Int) < (few.length : Int) by omega), gdO_pos (by omega), Int.toNat_natCast, hd, bindO_some, hb, bindO_some, ha, bindO_some]
        by_cases e : bef[i] = hs'[i]
        · rw [if_pos e]
          unfold F57j3
          rw [ckO_pos (by unfold InR; omega), succ_cast]
          obtain ⟨o', a1, a2, a3⟩ := ih (i + 1) o hi (by omega) (by omega)
          refine ⟨o', a1, a2, fun x => (a3 x).trans ⟨fun q => q.imp id fun ⟨j, d', hj, r⟩ => ⟨j, d', by omega, r⟩, fun q => q.imp id fun ⟨j, d', hj, r1, r2, r3⟩ => ⟨j, d', ?_, r1, r2, r3⟩⟩⟩
          rcases Nat.eq_or_lt_of_le hj with q | q
          · subst q; rw [hb, ha, e] at r2; exact absurd rfl r2
          · exact q
        · rw [if_neg e, gdO_pos (by omega)]
          unfold F57j3
          rw [ckO_pos (by unfold InR; omega), succ_cast]
          obtain ⟨o', a1, a2, a3⟩ := ih (i + 1) (o ++ [d.fam]) hi (by omega) (by rw [List.length_append]; simp; omega)
          refine ⟨o', a1, a2, fun x => (a3 x).trans ⟨fun q => ?_, fun q => ?_⟩⟩
          · rcases q with q | ⟨j, d', hj, r⟩
            · rcases List.mem_append.1 q with q | q
              · exact .inl q
              · exact .inr ⟨i, d, Nat.le_refl _, hd, by rw [hb, ha]; exact fun z => e (Option.some.inj z), (List.mem_singleton.1 q).symm⟩
            · exact .inr ⟨j, d', by omega, r⟩
          · rcases q with q | ⟨j, d', hj, r1, r2, r3⟩
            · exact .inl (List.mem_append_left _ q)
            · rcases Nat.eq_or_lt_of_le hj with q | q
              · subst q; rw [hd] at r1; injection r1 with r1; subst r1
                exact .inl (List.mem_append_right _ (List.mem_singleton.2 r3.symm))
              · exact .inr ⟨j, d', q, r1, r2, r3⟩
  obtain ⟨o', a1, a2, a3⟩ := loop N 0 [] (by omega) (by omega) (by simp)
  rw [show ((0 : Nat) : Int) = 0 from rfl] at a1
  rw [a1]
  unfold F57j1
  rw [gdO_pos (by omega)]
  refine ⟨_, rfl, by rw [sortI_len]; omega, fun x => (sortI_perm o').mem_iff.trans ((a3 x).trans ⟨fun q => q.elim (fun z => by cases z) fun ⟨j, d, _, r⟩ => ⟨j, d, r⟩, fun ⟨j, d, r⟩ => .inr ⟨j, d, Nat.zero_le _, r⟩⟩)⟩
theorem or_bt2 {x : Int} (k h : Nat) (hb : bt x h = true) : bt (orI x ((2 ^ k : Nat) : Int)) h = true := by rw [or_bt, hb]; rfl
theorem or_lt2 {x : Int} {k H : Nat} (hx : 0 ≤ x ∧ x < 2 ^ H) (hk : k < H) : 0 ≤ orI x ((2 ^ k : Nat) : Int) ∧ orI x ((2 ^ k : Nat) : Int) < 2 ^ H := by
  have hpc : (2 : Int) ^ H = ((2 ^ H : Nat) : Int) := by rw [Int.natCast_pow]; rfl
  unfold orI
  rw [Int.toNat_natCast]
  have h1 : x.toNat < 2 ^ H := by omega
  have h3 := Nat.or_lt_two_pow h1 (Nat.pow_lt_pow_right (by decide) hk : 2 ^ k < 2 ^ H)
  rw [hpc]; omega
theorem more_any (N : Nat) (hN : 2100 ≤ N) (hs0 : F25 N = some true) (p : Int) (q : List A2) (r : A2) : F12 N p q r = some true := by
  obtain ⟨H, l, e0, hH, ok, hn, hf⟩ := F60_eq p q (N := N) (by omega)
  have sane : F12j1 N = some true := by unfold F12j1; rw [hs0]; rfl
  unfold F12
  rw [e0, bindO_some]
  by_cases hl0 : (l.length : Int) = 0
  · rw [if_pos hl0]; exact sane
  rw [if_neg hl0]
  by_cases hH0 : (H : Int) = 0
  · rw [if_pos hH0]; exact sane
  rw [if_neg hH0]
  obtain ⟨z, ez, z0, z1⟩ := F59_ok r.a (l.length : Int) (by omega) (by omega)
  obtain ⟨k, rfl⟩ : ∃ k : Nat, z = k := ⟨z.toNat, by omega⟩
  have hk : k < l.length := by omega
  have hc : l[k]? = some l[k] := List.getElem?_eq_getElem hk
  generalize l[k] = c at hc
  obtain ⟨y, ey, y0, y1⟩ := F59_ok r.b (H : Int) (by omega) (by omega)
  obtain ⟨b, rfl⟩ : ∃ b : Nat, y = b := ⟨y.toNat, by omega⟩
  have hb : b < H := by omega
  obtain ⟨_, _, hv, _⟩ := okM_iff.1 ok
  have hvc := hv c (List.mem_iff_getElem?.2 ⟨k, hc⟩)
  have hvc' := hvc.1
  unfold vCm at hvc'
  rw [Int.toNat_natCast] at hvc
  have hp := p2_ck (k := b) (by omega)
  have hor := or_lt2 (x := c.hrs) (k := b) (H := H) ⟨by omega, hvc.2⟩ hb
  have hor2 := or_bd (a := c.hrs) (k := b) (by omega) (by omega)
  have okm : okM (H : Int) (l.set k ⟨c.fam, orI c.hrs ((2 ^ b : Nat) : Int), c.wants⟩) := by
    obtain ⟨m1, m2, m3, m4⟩ := okM_iff.1 ok
    refine okM_iff.2 ⟨m1, by rw [List.length_set]; exact m2, fun d hd => ?_, ?_⟩
    · rcases List.mem_or_eq_of_mem_set hd with hd | hd
      · exact m3 d hd
      · subst hd
        rw [Int.toNat_natCast]
        exact ⟨⟨hvc'.1, ⟨hor2.1, by show orI c.hrs ((2 ^ b : Nat) : Int) ≤ 16777215; omega⟩, hvc'.2.2⟩, hor.2⟩
    · rw [List.map_set]
      have : (l.map (·.fam)).set k c.fam = l.map (·.fam) := by
        refine List.ext_getElem? fun i => ?_
        rw [List.getElem?_set]
        by_cases e : k = i
        · subst e
          rw [if_pos rfl, if_pos (by rw [List.length_map]; exact hk), List.getElem?_map, hc]; rfl
        · rw [if_neg e]
      show ((l.map (·.fam)).set k c.fam).Nodup
      rw [this]; exact m4
  have okf := okM_erase ok k
  obtain ⟨L, eL, hL⟩ := F36_eq ok (N := N) (by omega)
  obtain ⟨L1, eL1, hL1⟩ := F36_eq okm (N := N) (by omega)
  obtain ⟨L2, eL2, hL2⟩ := F36_eq okf (N := N) (by omega)
  obtain ⟨R, hs, e1, f1⟩ := F80_eq ok (N := N) (by omega)
  obtain ⟨R', hs', e2, f2⟩ := F80_eq okf (N := N) (by omega)
  obtain ⟨mv, emv, hmvl, hmv⟩ := F57_ok ok (N := N) (by omega) hc e1 f1.2.2.1 e2 f2.2.2.1
  have le1 : L ≤ L1 := lev_le hL hL1 (feasL_set hc (fun h hb => or_bt2 b h hb) rfl hL.2.1)
  have le2 : L ≤ L2 := lev_le hL hL2 (feasL_erase hL.2.1)
  have hfl : (l.eraseIdx k).length = l.length - 1 := List.length_eraseIdx_of_lt hk
  have l1 := f1.2.2.1
  have l2 := f2.2.2.1
  rw [ez, bindO_some, gdO_pos (show 0 + l.length ≤ 1000000000 by omega)]
  unfold F12j2
  rw [gdO_pos (by omega), Int.toNat_natCast, hc, bindO_some, ey, bindO_some, gdO_pos (by omega), Int.toNat_natCast, p2_cast', ckO_pos (by unfold InR; omega), gdO_pos (by omega), gdO_pos (by omega), ckO_pos (by unfold InR; omega),
    F16_ok ok (by omega) hc, bindO_some, eL, bindO_some, eL1, bindO_some, eL2, bindO_some, emv, bindO_some, F80_hs ok (by omega) e1, bindO_some, F80_hs okf (by omega) e2, bindO_some, if_pos rfl, if_pos rfl, if_pos rfl, if_pos rfl, if_pos rfl, if_pos rfl, if_pos rfl,
    if_neg (show ¬ L1 < L by omega), if_neg (show ¬ L2 < L by omega), ckO_pos (show InR (((hs'.length : Nat) : Int) + 1) by unfold InR; omega), if_pos (show ((hs'.length : Nat) : Int) + 1 = ((hs.length : Nat) : Int) by omega)]
  have sane3 : F12j3 N = some true := by unfold F12j3; rw [hs0]; rfl
  have loop8 : ∀ (rec4 : Int → Int → Option Bool) (a : Int) (j : Nat) (d : Cm), l[j]? = some d → ∀ (m i : Nat) (nm : Bool), i ≤ mv.length → mv.length < m + i →
      ∃ nm', F12l8 rec4 ((H : Int), l) (mv, 0) (hs, 0) (hs', 0) a (j : Int) m nm (i : Int) = F12j6 rec4 (hs, 0) (hs', 0) a (j : Int) nm' ∧ (nm' = true ↔ nm = true ∨ ∃ x, i ≤ x ∧ mv[x]? = some d.fam) := by
    intro rec4 a j d hd m
    induction m with
    | zero => intro i nm g1 g2; omega
    | succ m ih =>
      intro i nm g1 g2
      show ∃ nm', F12b8 rec4 ((H : Int), l) (mv, 0) (hs, 0) (hs', 0) a (j : Int) (F12l8 rec4 ((H : Int), l) (mv, 0) (hs, 0) (hs', 0) a (j : Int) m) nm (i : Int) = _ ∧ _
      unfold F12b8
      rcases drop_cases mv i with ⟨hi, _⟩ | ⟨x, hi, hx, _⟩
      · rw [if_neg (show ¬ (i : Int) < (mv.length : Int) by omega)]
        refine ⟨nm, rfl, .inl, fun q => q.elim id fun ⟨y, hy, hm⟩ => ?_⟩
        have := (List.getElem?_eq_some_iff.1 hm).1; omega
      · rw [if_pos (show (i : Int) < (mv.length : Int) by omega)]
        unfold F12j9
        rw [ckO_pos (by unfold InR; omega), succ_cast]
        cases nm with
        | true =>
          rw [if_pos rfl]
          obtain ⟨nm', a1, a2⟩ := ih (i + 1) true hi (by omega)
          exact ⟨nm', a1, fun _ => .inl rfl, fun _ => a2.2 (.inl rfl)⟩
        | false =>
          rw [if_neg (by decide), gdO_pos (by omega), Int.toNat_natCast, hx, bindO_some, gdO_pos (by omega), Int.toNat_natCast, hd, bindO_some]
          by_cases e : x = d.fam
          · rw [if_pos e]
            obtain ⟨nm', a1, a2⟩ := ih (i + 1) true hi (by omega)
            exact ⟨nm', a1, fun _ => .inr ⟨i, Nat.le_refl _, by rw [hx, e]⟩, fun _ => a2.2 (.inl rfl)⟩
          · rw [if_neg e, ckO_pos (by unfold InR; omega)]
            obtain ⟨nm', a1, a2⟩ := ih (i + 1) false hi (by omega)
            refine ⟨nm', a1, fun q => ?_, fun q => a2.2 ?_⟩
            · rcases a2.1 q with q | ⟨y, hy, hm⟩
              · cases q
              · exact .inr ⟨y, by omega, hm⟩
            · rcases q with q | ⟨y, hy, hm⟩
              · cases q
              · rcases Nat.eq_or_lt_of_le hy with q | q
                · subst q; rw [hx] at hm; exact absurd (Option.some.inj hm) e
                · exact .inr ⟨y, q, hm⟩
  have loop4 : ∀ (m j : Nat), j ≤ l.length → l.length < m + j → F12l4 N ((H : Int), l) (k : Int) (mv, 0) (hs, 0) (hs', 0) m (((if j ≤ k then j else j - 1 : Nat)) : Int) (j : Int) = some true := by
    intro m
    induction m with
    | zero => intro j g1 g2; omega
    | succ m ih =>
      intro j g1 g2
      show F12b4 N ((H : Int), l) (k : Int) (mv, 0) (hs, 0) (hs', 0) (F12l4 N ((H : Int), l) (k : Int) (mv, 0) (hs, 0) (hs', 0) m) _ (j : Int) = _
      unfold F12b4
      rcases drop_cases l j with ⟨hj, _⟩ | ⟨d, hj, hd, _⟩
      · rw [if_neg (show ¬ (j : Int) < (l.length : Int) by omega)]; exact sane3
      · rw [if_pos (show (j : Int) < (l.length : Int) by omega)]
        by_cases e : j = k
        · subst e
          rw [if_pos rfl]
          unfold F12j5
          rw [ckO_pos (by unfold InR; omega), succ_cast]
          have := ih (j + 1) hj (by omega)
          rw [if_neg (by omega), show j + 1 - 1 = j by omega] at this
          rw [if_pos (Nat.le_refl j)]; exact this
        · rw [if_neg (show ¬ (j : Int) = (k : Int) by omega)]
          have nxt := ih (j + 1) hj (by omega)
          obtain ⟨at_, ha, hfew, hbef⟩ : ∃ a : Nat, a = (if j ≤ k then j else j - 1) ∧ (l.eraseIdx k)[a]? = some d ∧ (hs.eraseIdx k)[a]? = hs[j]? := by
            refine ⟨_, rfl, ?_, ?_⟩
            · rw [List.getElem?_eraseIdx]
              by_cases q : j ≤ k
              · rw [if_pos q, if_pos (by omega)]; exact hd
              · rw [if_neg q, if_neg (by omega), show j - 1 + 1 = j by omega]; exact hd
            · rw [List.getElem?_eraseIdx]
              by_cases q : j ≤ k
              · rw [if_pos q, if_pos (by omega)]
              · rw [if_neg q, if_neg (by omega), show j - 1 + 1 = j by omega]
          have hat : at_ < (l.eraseIdx k).length := (List.getElem?_eq_some_iff.1 hfew).1
          have nxt' : F12l4 N ((H : Int), l) (k : Int) (mv, 0) (hs, 0) (hs', 0) m (((at_ + 1 : Nat)) : Int) ((j + 1 : Nat) : Int) = some true := by
            have e2 : at_ + 1 = (if j + 1 ≤ k then j + 1 else j + 1 - 1) := by rw [ha]; split <;> split <;> omega
            rw [e2]; exact nxt
          rw [← ha]
          obtain ⟨nm', a1, a2⟩ := loop8 (F12l4 N ((H : Int), l) (k : Int) (mv, 0) (hs, 0) (hs', 0) m) (at_ : Int) j d hd N 0 false (by omega) (by omega)
          rw [show ((0 : Nat) : Int) = 0 from rfl] at a1
          rw [a1]
          have hx : hs[j]? = some hs[j] := List.getElem?_eq_getElem (by omega)
          have hy : hs'[at_]? = some hs'[at_] := List.getElem?_eq_getElem (by omega)
          have hnm : nm' = true ↔ hs[j] ≠ hs'[at_] := by
            rw [a2]
            constructor
            · rintro (q | ⟨x, _, hm⟩)
              · cases q
              · obtain ⟨i, d', r1, r2, r3⟩ := (hmv d.fam).1 (List.mem_iff_getElem?.2 ⟨x, hm⟩)
                have e3 := fam_at okf hfew r1 r3
                subst e3
                rw [hbef, hx, hy] at r2
                exact fun q => r2 (congrArg some q)
            · intro q
              have hm := (hmv d.fam).2 ⟨at_, d, hfew, by rw [hbef, hx, hy]; exact fun z => q (Option.some.inj z), rfl⟩
              obtain ⟨x, hx⟩ := List.mem_iff_getElem?.1 hm
              exact .inr ⟨x, Nat.zero_le _, hx⟩
          unfold F12j6 F12j7 F12j5
          have fin : ckO ((at_ : Int) + 1) (ckO ((j : Int) + 1) (F12l4 N ((H : Int), l) (k : Int) (mv, 0) (hs, 0) (hs', 0) m ((at_ : Int) + 1) ((j : Int) + 1))) = some true := by
            rw [ckO_pos (by unfold InR; omega), ckO_pos (by unfold InR; omega), succ_cast, succ_cast, nxt']
          cases nm' with
          | true =>
            rw [if_pos rfl, gdO_pos (by omega), Int.toNat_natCast, hx, bindO_some, gdO_pos (by omega), Int.toNat_natCast, hy, bindO_some, if_neg (hnm.1 rfl)]
            exact fin
          | false =>
            have : hs[j] = hs'[at_] := Decidable.byContradiction fun q => by have := hnm.2 q; cases this
            rw [if_neg (by decide), gdO_pos (by omega), Int.toNat_natCast, hx, bindO_some, gdO_pos (by omega), Int.toNat_natCast, hy, bindO_some, if_pos this]
            exact fin
  have := loop4 N 0 (by omega) (by omega)
  rw [if_pos (Nat.zero_le k)] at this
  exact this
theorem more5 (p : Int) (q : List A2) (r : A2) : F12 (0 + 2100) p q r = some true := more_any _ (by omega) (sane5 _) p q r
end Go.K
