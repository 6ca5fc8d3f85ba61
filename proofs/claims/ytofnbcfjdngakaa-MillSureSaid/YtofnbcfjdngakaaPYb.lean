/- MillSure: what is sure by every sharing that is accepted; without an idle hour the same hours are served. No condition. -/
import Derived.Test.YtofnbcfjdngakaaPYa
namespace Go.K
open Go.RowKit
set_option linter.unusedVariables false
set_option linter.unusedSimpArgs false
theorem okM_okC {H : Nat} {l : List Cm} (ok : okM (H : Int) l) : okC l H := fun d hd => by
  have := (okM_iff.1 ok).2.2.1 d hd
  unfold vCm at this
  rw [Int.toNat_natCast] at this
  exact ⟨this.1.2.1.1, this.2⟩
theorem hs_bd {H : Nat} {l : List Cm} (ok : okM (H : Int) l) {R hs : List Int} (f : filld l H R hs) : ∀ x ∈ hs, 0 ≤ x ∧ x ≤ 24 := fun x hx => by
  obtain ⟨j, hj⟩ := List.mem_iff_getElem?.1 hx
  have hl : j < l.length := by have := (List.getElem?_eq_some_iff.1 hj).1; have := f.2.2.1; omega
  have e := f.2.2.2.1 j hl
  rw [hj] at e; injection e with e
  have hc : l[j]? = some l[j] := List.getElem?_eq_getElem hl
  have h1 := (f.2.2.2.2 j _ hc).1
  have h2 := ((okM_iff.1 ok).2.2.1 _ (List.mem_iff_getElem?.2 ⟨j, hc⟩)).1
  unfold vCm at h2
  have := cnt_nn R j
  omega
theorem shr_feas {l l' : List Cm} {H : Nat} {hs s Q : List Int} (h : shr l H hs s Q) (h1 : hs.length = l.length) (ho : okH l' Q) : Feas l' H hs := ⟨Q, ho, h.1, fun j x hx => by
  have hj : j < l.length := by have := (List.getElem?_eq_some_iff.1 hx).1; omega
  have e := h.2.2.2 j hj
  rw [hx] at e; injection e with e; omega⟩
theorem fam_one {h : Int} {l : List Cm} (ok : okM h l) {i j : Nat} {c d : Cm} (hc : l[i]? = some c) (hd : l[j]? = some d) (e : d.fam = c.fam) : j = i := by
  have a := ix_at ok hc
  have b := ix_at ok hd
  rw [e] at b; omega
theorem shr_at {l : List Cm} {H : Nat} {hs s Q : List Int} (ok : okM (H : Int) l) (h : shr l H hs s Q) {v i : Nat} {c : Cm} (hv : v < H) (hc : l[i]? = some c) (hs : s[v]? = some c.fam) : Q[v]? = some (i : Int) := by
  have vl : v < Q.length := by have := h.1; omega
  have hx : Q[v]? = some Q[v] := List.getElem?_eq_getElem vl
  have hf := ((okM_iff.1 ok).2.2.1 c (List.mem_iff_getElem?.2 ⟨i, hc⟩)).1.1
  rcases h.2.2.1 v _ hx with ⟨_, q⟩ | ⟨d, a, hd, _, q⟩
  · rw [hs] at q; injection q with q; omega
  · rw [hs] at q; injection q with q
    have := fam_one ok hc hd q.symm
    rw [hx]; congr 1; omega
theorem F53_eq {H : Nat} {l : List Cm} (ok : okM (H : Int) l) {N : Nat} (hN : 2000 ≤ N) {R hs : List Int} (e : F80 N (H : Int) l = some ((H : Int), R, hs)) (f : filld l H R hs) {i v : Nat} {c : Cm} (hc : l[i]? = some c) (hv : v < H) :
    ∃ z, F53 N (H : Int) l c.fam (v : Int) = some (z, 0) ∧ (z = 1 → ∀ s Q, shr l H hs s Q → s[v]? = some c.fam) ∧ (z = 0 → ∀ s Q, shr l H hs s Q → s[v]? ≠ some c.fam) := by
  have hH := ok.1
  have hn := ok.2.1
  have hC := okM_okC ok
  have hH' : H ≤ 24 := by omega
  have h1 := f.2.2.1
  have hbd := hs_bd ok f
  have hi : i < l.length := (List.getElem?_eq_some_iff.1 hc).1
  have hcb := okC_24 hH' hC hc
  unfold F53
  rw [F66_ok ok (by omega) hc, bindO_some, if_pos rfl, ckO_pos (by unfold InR; omega), F70_eq, bindO_some, decide_eq_true (show (0 : Int) ≤ (v : Int) ∧ (v : Int) ≤ (H : Int) - 1 by omega), if_pos rfl, e, bindO_some,
    F91_eq hH' hC hn (by omega) (by simp) hN, bindO_some]
  obtain ⟨b, eb, hb⟩ := F87_eq hH' (okC_clrs hC v [c.fam]) (by rw [List.length_map]; exact hn) (d := hs) (by rw [List.length_map, h1]) hbd (N := N) (by omega)
  have eb' : F87 N ((H : Int), l.map (clrs v [c.fam])).1 ((H : Int), l.map (clrs v [c.fam])).2 ((H : Int), R, hs).2.2 = some b := eb
  rw [eb', bindO_some]
  by_cases hbt : b = true
  · have hx : (((H : Int), R, hs).2.2)[i]? = some (cnt R i) := f.2.2.2.1 i hi
    have nn := cnt_nn R i
    have cw := (hbd _ (List.mem_iff_getElem?.2 ⟨i, hx⟩)).2
    rw [if_pos hbt, gdO_pos (by omega), Int.toNat_natCast, hx, bindO_some]
    by_cases h0 : cnt R i = 0
    · rw [if_pos h0]
      refine ⟨0, rfl, fun q => by omega, fun _ s Q hs q => ?_⟩
      have a := shr_at ok hs hv hc q
      have e2 := hs.2.2.2 i hi
      rw [f.2.2.2.1 i hi] at e2; injection e2 with e2
      have : 0 < Q.count (i : Int) := List.count_pos_iff.2 (List.mem_iff_getElem?.2 ⟨v, a⟩)
      unfold cnt at e2 h0; omega
    · rw [if_neg h0, hc, bindO_some, F92_eq (by omega) (by omega), bindO_some, Int.toNat_natCast]
      by_cases hbv : bt c.hrs v = true
      · rw [if_pos hbv, ckO_pos (by unfold InR; omega), F93_eq _ (by omega) hN, bindO_some, F91_eq hH' hC hn (by omega) (by rw [List.length_map]; omega) hN, bindO_some]
        obtain ⟨b2, eb2, hb2⟩ := F87_eq hH' (okC_clrs hC v (l.map (·.fam))) (by rw [List.length_map]; exact hn) (d := hs.set i (cnt R i - 1)) (by rw [List.length_set, List.length_map, h1]) (fun x hx => by
          rcases List.mem_or_eq_of_mem_set hx with q | q
          · exact hbd x q
          · omega) (N := N) (by omega)
        have eb2' : F87 N ((H : Int), l.map (clrs v (l.map (·.fam)))).1 ((H : Int), l.map (clrs v (l.map (·.fam)))).2 ((((H : Int), R, hs).2.2).set i (cnt R i - 1)) = some b2 := eb2
        rw [eb2', bindO_some]
        by_cases h2 : b2 = true
        · rw [if_pos h2]; exact ⟨2, rfl, fun q => by omega, fun q => by omega⟩
        · rw [if_neg h2]
          refine ⟨0, rfl, fun q => by omega, fun _ s Q hs q => h2 (hb2.2 ?_)⟩
          have a := shr_at ok hs hv hc q
          have vl : v < Q.length := (List.getElem?_eq_some_iff.1 a).1
          have hset : (Q.set v (-1))[v]? = some (-1) := by rw [List.getElem?_set, if_pos rfl, if_pos vl]
          have okq : okH l (Q.set v (-1)) := fun h x hx => by
            rw [List.getElem?_set] at hx
            by_cases e3 : v = h
            · rw [if_pos e3, if_pos vl] at hx
              injection hx with hx; exact .inl hx.symm
            · rw [if_neg e3] at hx; exact shr_ok hs h x hx
          refine ⟨Q.set v (-1), okH_clrs hH' hC (by omega) okq (fun x d hx h0 => by rw [hset] at hx; injection hx with hx; omega), by rw [List.length_set]; exact hs.1, fun j x hx => ?_⟩
          have c1 := cnt_set (t := -1) a (j : Int)
          rw [if_neg (show ¬ (-1 : Int) = (j : Int) by omega)] at c1
          rw [List.getElem?_set] at hx
          by_cases e3 : i = j
          · subst e3
            rw [if_pos rfl, if_pos (by omega)] at hx; injection hx with hx
            rw [if_pos rfl] at c1
            have e2 := hs.2.2.2 i hi
            rw [f.2.2.2.1 i hi] at e2; injection e2 with e2
            unfold cnt at e2 hx ⊢; omega
          · rw [if_neg e3] at hx
            rw [if_neg (by omega)] at c1
            have hj : j < l.length := by have := (List.getElem?_eq_some_iff.1 hx).1; omega
            have e2 := hs.2.2.2 j hj
            rw [hx] at e2; injection e2 with e2
            unfold cnt at e2 ⊢; omega
      · rw [if_neg hbv]
        refine ⟨0, rfl, fun q => by omega, fun _ s Q hs q => ?_⟩
        have a := shr_at ok hs hv hc q
        rcases shr_ok hs v _ a with r | ⟨_, d, hd, hb⟩
        · omega
        · rw [Int.toNat_natCast, hc] at hd; injection hd with hd; subst hd; exact hbv hb
  · rw [if_neg hbt]
    refine ⟨1, rfl, fun _ s Q hs => Decidable.byContradiction fun q => hbt (hb.2 ?_), fun q => by omega⟩
    refine shr_feas hs h1 (okH_clrs hH' hC (by omega) (shr_ok hs) fun x d hx h0 hd hm => q ?_)
    have hx2 : d.fam = c.fam := by simpa using hm
    rcases hs.2.2.1 v x hx with ⟨r, _⟩ | ⟨d', _, hd', _, r⟩
    · omega
    · rw [hd] at hd'; injection hd' with hd'; subst hd'; rw [r, hx2]
theorem F55_eq {H : Nat} {l : List Cm} (ok : okM (H : Int) l) {N : Nat} (hN : 2000 ≤ N) {R hs : List Int} (e : F80 N (H : Int) l = some ((H : Int), R, hs)) (f : filld l H R hs) :
    ∃ idle, F55 N (H : Int) l = some (idle, 0) ∧ idle.length ≤ H ∧ ∀ x, x ∈ idle ↔ ∃ v : Nat, x = (v : Int) ∧ v < H ∧ Feas (l.map (clrs v (l.map (·.fam)))) H hs := by
  have hH := ok.1
  have hn := ok.2.1
  have hC := okM_okC ok
  have hH' : H ≤ 24 := by omega
  have h1 := f.2.2.1
  have hbd := hs_bd ok f
  unfold F55
  rw [F23_ok ok (by omega), bindO_some, if_pos rfl, e, bindO_some]
  have loop : ∀ (m i : Nat) (o : List Int), i ≤ H → H < m + i → o.length ≤ i → ∃ idle, F55l1 (H : Int) l N ((H : Int), R, hs) m o (i : Int) = some (idle, 0) ∧ idle.length ≤ H ∧ ∀ x, x ∈ idle ↔ x ∈ o ∨ ∃ v : Nat, x = (v : Int) ∧ i ≤ v ∧ v < H ∧ Feas (l.map (clrs v (l.map (·.fam)))) H hs := by
    intro m
    induction m with
    | zero => intro i o g1 g2; omega
    | succ m ih =>
      intro i o g1 g2 g3
      show ∃ idle, F55b1 (H : Int) l N ((H : Int), R, hs) (F55l1 (H : Int) l N ((H : Int), R, hs) m) o (i : Int) = _ ∧ _
      unfold F55b1
      by_cases hi : i < H
      · obtain ⟨b, eb, hb⟩ := F87_eq hH' (okC_clrs hC i (l.map (·.fam))) (by rw [List.length_map]; exact hn) (d := hs) (by rw [List.length_map, h1]) hbd (N := N) (by omega)
        have eb' : F87 N ((H : Int), l.map (clrs i (l.map (·.fam)))).1 ((H : Int), l.map (clrs i (l.map (·.fam)))).2 ((H : Int), R, hs).2.2 = some b := eb
        rw [if_pos (by omega), F93_eq _ (by omega) hN, bindO_some, F91_eq hH' hC hn (by omega) (by rw [List.length_map]; omega) hN, bindO_some, eb', bindO_some]
        unfold F55j2
        by_cases hbt : b = true
        · rw [if_pos hbt, gdO_pos (by omega), ckO_pos (by unfold InR; omega), succ_cast]
          obtain ⟨idle, a1, a2, a3⟩ := ih (i + 1) (o ++ [(i : Int)]) (by omega) (by omega) (by simp; omega)
          refine ⟨idle, a1, a2, fun x => (a3 x).trans ⟨fun q => ?_, fun q => ?_⟩⟩
          · rcases q with q | ⟨v, r1, r2, r3⟩
            · rcases List.mem_append.1 q with q | q
              · exact .inl q
              · exact .inr ⟨i, List.mem_singleton.1 q, Nat.le_refl _, hi, hb.1 hbt⟩
            · exact .inr ⟨v, r1, by omega, r3⟩
          · rcases q with q | ⟨v, r1, r2, r3⟩
            · exact .inl (List.mem_append_left _ q)
            · rcases Nat.eq_or_lt_of_le r2 with q | q
              · subst q; exact .inl (List.mem_append_right _ (List.mem_singleton.2 r1))
              · exact .inr ⟨v, r1, q, r3⟩
        · rw [if_neg hbt, ckO_pos (by unfold InR; omega), succ_cast]
          obtain ⟨idle, a1, a2, a3⟩ := ih (i + 1) o (by omega) (by omega) (by omega)
          refine ⟨idle, a1, a2, fun x => (a3 x).trans ⟨fun q => q.imp id fun ⟨v, r1, r2, r3⟩ => ⟨v, r1, by omega, r3⟩, fun q => q.imp id fun ⟨v, r1, r2, r3⟩ => ⟨v, r1, ?_, r3⟩⟩⟩
          rcases Nat.eq_or_lt_of_le r2 with q | q
          · subst q; exact absurd (hb.2 r3.2) hbt
          · exact q
      · rw [if_neg (by omega)]
        refine ⟨o, rfl, by omega, fun x => ⟨.inl, fun q => q.elim id fun ⟨v, _, r2, r3, _⟩ => by omega⟩⟩
  obtain ⟨idle, a1, a2, a3⟩ := loop N 0 [] (by omega) (by omega) (by simp)
  exact ⟨idle, a1, a2, fun x => (a3 x).trans ⟨fun q => q.elim (fun z => by cases z) fun ⟨v, r1, _, r3⟩ => ⟨v, r1, r3⟩, fun ⟨v, r1, r3⟩ => .inr ⟨v, r1, Nat.zero_le _, r3⟩⟩⟩
theorem F44_ok {H : Nat} {l : List Cm} (ok : okM (H : Int) l) {N : Nat} (hN : 2000 ≤ N) {d : List Int} (hd : d.length = l.length) (hb : ∀ x ∈ d, 0 ≤ x ∧ x ≤ 24) : ∃ b, F44 N (H : Int) l d = some (b, 0) ∧ (b = true ↔ Feas l H d) := by
  have hH := ok.1
  have hn := ok.2.1
  have loop : ∀ (m i : Nat), i ≤ d.length → d.length < m + i → F86l1 d m (i : Int) = some 0 := by
    intro m
    induction m with
    | zero => intro i g1 g2; omega
    | succ m ih =>
      intro i g1 g2
      show F86b1 d (F86l1 d m) (i : Int) = _
      unfold F86b1
      by_cases hi : i < d.length
      · have hx : d[i]? = some d[i] := List.getElem?_eq_getElem hi
        have := hb _ (List.mem_iff_getElem?.2 ⟨i, hx⟩)
        rw [if_pos (by omega), gdO_pos (by omega), Int.toNat_natCast, hx, bindO_some, F70_eq, bindO_some, decide_eq_true this, if_pos rfl, ckO_pos (by unfold InR; omega), succ_cast]
        exact ih (i + 1) hi (by omega)
      · rw [if_neg (by omega)]
  have l0 := loop N 0 (by omega) (by omega)
  rw [show ((0 : Nat) : Int) = 0 from rfl] at l0
  obtain ⟨b, eb, hbb⟩ := F87_eq (by omega) (okM_okC ok) hn hd hb (N := N) (by omega)
  unfold F44 F86
  rw [F23_ok ok (by omega), bindO_some, if_pos rfl, if_pos (by omega), l0, bindO_some, if_pos rfl, eb, bindO_some]
  exact ⟨b, rfl, hbb⟩
theorem okM_clr {H : Nat} {l : List Cm} (ok : okM (H : Int) l) (v : Nat) : okM (H : Int) (l.map (clr v)) := by
  obtain ⟨a, b, c, d⟩ := okM_iff.1 ok
  refine okM_iff.2 ⟨a, by rw [List.length_map]; exact b, fun x hx => ?_, ?_⟩
  · obtain ⟨y, hy, rfl⟩ := List.mem_map.1 hx
    obtain ⟨h1, h2⟩ := c y hy
    unfold vCm at h1
    have := clr_le y.hrs ((2 ^ v : Nat) : Int) h1.2.1.1
    refine ⟨⟨h1.1, ⟨this.1, ?_⟩, h1.2.2⟩, ?_⟩
    · show andNotI y.hrs ((2 ^ v : Nat) : Int) ≤ 16777215; omega
    · show andNotI y.hrs ((2 ^ v : Nat) : Int) < _; omega
  · rw [List.map_map]; exact d
theorem clrs_all (l : List Cm) (v : Nat) : l.map (clrs v (l.map (·.fam))) = l.map (clr v) := by
  refine List.map_congr_left fun c hc => ?_
  unfold clrs
  rw [if_pos (List.mem_map.2 ⟨c, hc, rfl⟩)]
theorem sure_any (N : Nat) (hN : 2100 ≤ N) (hs0 : F25 N = some true) (p : Int) (q : List A2) (t : List Int) (ht : t.length ≤ 9223372036854775807) : F13 N p q t = some true := by
  obtain ⟨H, l, e0, hH10, ok, hn6, _⟩ := F60_eq p q (N := N) (by omega)
  obtain ⟨R, hs, e1, f⟩ := F80_eq ok (N := N) (by omega)
  rw [Int.toNat_natCast] at f
  obtain ⟨s0, e2, hs0s⟩ := F40_eq ok (N := N) (by omega) e1 f
  obtain ⟨idle, e3, hil, hid⟩ := F55_eq ok (N := N) (by omega) e1 f
  have hH := ok.1
  have hn := ok.2.1
  have hC := okM_okC ok
  have hH' : H ≤ 24 := by omega
  have h1 := f.2.2.1
  have hbd := hs_bd ok f
  unfold F13
  have hl0 := hs0s.2.1
  rw [e0, bindO_some, e2, bindO_some, e3, bindO_some, F80_hs ok (by omega) e1, bindO_some, if_pos rfl, if_pos rfl, if_pos rfl, if_pos (show (s0.length : Int) = (H : Int) by omega), gdO_pos (show 0 + s0.length ≤ 1000000000 by omega)]
  -- without an idle hour
  have loop8 : ∀ (rec4 : Int → Option Bool) (j w : Nat), idle[j]? = some (w : Int) → w < H → ∀ (m i : Nat) (u : List Cm), i ≤ l.length → l.length < m + i → (∀ x : Nat, u[x]? = if x < i then l[x]?.map (clr w) else l[x]?) →
      F13l8 N rec4 ((H : Int), l) (idle, 0) (hs, 0) (j : Int) m u (i : Int) = F13j7 N rec4 ((H : Int), l) (hs, 0) (j : Int) (l.map (clr w)) := by
    intro rec4 j w hj hw m
    induction m with
    | zero => intro i u g1 g2; omega
    | succ m ih =>
      intro i u g1 g2 g3
      show F13b8 N rec4 ((H : Int), l) (idle, 0) (hs, 0) (j : Int) (F13l8 N rec4 ((H : Int), l) (idle, 0) (hs, 0) (j : Int) m) u (i : Int) = _
      unfold F13b8
      rcases drop_cases l i with ⟨hi, _⟩ | ⟨c, hi, hc, _⟩
      · have hu : u = l.map (clr w) := List.ext_getElem? fun x => by
          rw [g3 x, List.getElem?_map]
          by_cases r : x < i
          · rw [if_pos r]
          · rw [if_neg r, List.getElem?_eq_none (by omega)]; rfl
        subst hu
        rw [if_neg (by rw [List.length_map]; omega)]
      · have ho : u[i]? = some c := by rw [g3 i, if_neg (by omega), hc]
        have hlo : i < u.length := (List.getElem?_eq_some_iff.1 ho).1
        have hcb := okC_24 hH' hC hc
        have hp := p2_ck (k := w) (by omega)
        have hj' : ((idle, (0 : Int)).1)[j]? = some (w : Int) := hj
        rw [if_pos (by omega), gdO_pos (by omega), Int.toNat_natCast, ho, bindO_some, gdO_pos (by omega), Int.toNat_natCast, hj', bindO_some, gdO_pos (by omega), Int.toNat_natCast, p2_cast', ckO_pos (by unfold InR; omega), gdO_pos (by omega), gdO_pos (by omega), ckO_pos (by unfold InR; omega), ckO_pos (by unfold InR; omega), succ_cast]
        refine ih (i + 1) _ hi (by omega) fun x => ?_
        rw [List.getElem?_set]
        by_cases r : i = x
        · subst r
          rw [if_pos rfl, if_pos hlo, if_pos (by omega), hc]; rfl
        · rw [if_neg r, g3 x]
          have : (x < i + 1) ↔ (x < i) := by omega
          simp only [this]
  have loop4 : ∀ (m j : Nat), j ≤ idle.length → idle.length < m + j → F13l4 N ((H : Int), l) (idle, 0) (hs, 0) m (j : Int) = some true := by
    intro m
    induction m with
    | zero => intro j g1 g2; omega
    | succ m ih =>
      intro j g1 g2
      show F13b4 N ((H : Int), l) (idle, 0) (hs, 0) (F13l4 N ((H : Int), l) (idle, 0) (hs, 0) m) (j : Int) = _
      unfold F13b4
      by_cases hj : j < idle.length
      · have hx : idle[j]? = some idle[j] := List.getElem?_eq_getElem hj
        obtain ⟨w, ew, hw, hfe⟩ := (hid _).1 (List.mem_iff_getElem?.2 ⟨j, hx⟩)
        rw [ew] at hx
        rw [clrs_all] at hfe
        rw [if_pos (show (j : Int) < (idle.length : Int) by omega), gdO_pos (show 0 + l.length ≤ 1000000000 by omega)]
        unfold F13j6
        have b8 := loop8 (F13l4 N ((H : Int), l) (idle, 0) (hs, 0) m) j w hx hw N 0 l (by omega) (by omega) (fun x => by rw [if_neg (by omega)])
        rw [show ((0 : Nat) : Int) = 0 from rfl] at b8
        show F13l8 N _ ((H : Int), l) (idle, 0) (hs, 0) (j : Int) N l 0 = some true
        rw [b8]
        unfold F13j7 F13j5
        obtain ⟨b, eb, hb⟩ := F44_ok (okM_clr ok w) (N := N) (by omega) (d := hs) (by rw [List.length_map]; exact h1) hbd
        have eb' : F44 N ((H : Int), l).1 (l.map (clr w)) (hs, (0 : Int)).1 = some (b, 0) := eb
        rw [eb', bindO_some, if_pos rfl, if_pos (hb.2 hfe), ckO_pos (by unfold InR; omega), succ_cast]
        exact ih (j + 1) hj (by omega)
      · rw [if_neg (show ¬ (j : Int) < (idle.length : Int) by omega)]
        unfold F13j3; rw [hs0]; rfl
  have tail4 : F13j2 N ((H : Int), l) (idle, 0) (hs, 0) = some true := loop4 N 0 (by omega) (by omega)
  -- what is sure
  have each : ∀ s Q, shr l H hs s Q → F13j20 N ((H : Int), l) (idle, 0) (hs, 0) s = some true := by
    intro s Q hsh
    have hsl := hsh.2.1
    have loop14 : ∀ (rec9 : Int → Option Bool) (h : Nat) (m i : Nat) (nm : Bool), i ≤ idle.length → idle.length < m + i → ∃ nm', F13l14 rec9 (idle, 0) s (h : Int) m nm (i : Int) = F13j12 rec9 s (h : Int) nm' ∧ (nm' = true ↔ nm = true ∨ ∃ x, i ≤ x ∧ idle[x]? = some (h : Int)) := by
      intro rec9 h m
      induction m with
      | zero => intro i nm g1 g2; omega
      | succ m ih =>
        intro i nm g1 g2
        show ∃ nm', F13b14 rec9 (idle, 0) s (h : Int) (F13l14 rec9 (idle, 0) s (h : Int) m) nm (i : Int) = _ ∧ _
        unfold F13b14
        rcases drop_cases idle i with ⟨hi, _⟩ | ⟨x, hi, hx, _⟩
        · rw [if_neg (show ¬ (i : Int) < (idle.length : Int) by omega)]
          refine ⟨nm, rfl, .inl, fun q => q.elim id fun ⟨y, hy, hm⟩ => ?_⟩
          have := (List.getElem?_eq_some_iff.1 hm).1; omega
        · rw [if_pos (show (i : Int) < (idle.length : Int) by omega)]
          unfold F13j15
          have ck : InR ((i : Int) + 1) := by unfold InR; omega
          have hx' : ((idle, (0 : Int)).1)[i]? = some x := hx
          cases nm with
          | true =>
            rw [if_pos rfl, ckO_pos ck, succ_cast]
            obtain ⟨nm', a1, a2⟩ := ih (i + 1) true hi (by omega)
            exact ⟨nm', a1, fun _ => .inl rfl, fun _ => a2.2 (.inl rfl)⟩
          | false =>
            rw [if_neg (by decide), gdO_pos (by omega), Int.toNat_natCast, hx', bindO_some]
            by_cases e : x = (h : Int)
            · rw [if_pos e, ckO_pos ck, succ_cast]
              obtain ⟨nm', a1, a2⟩ := ih (i + 1) true hi (by omega)
              exact ⟨nm', a1, fun _ => .inr ⟨i, Nat.le_refl _, by rw [hx, e]⟩, fun _ => a2.2 (.inl rfl)⟩
            · rw [if_neg e, ckO_pos ck, succ_cast]
              obtain ⟨nm', a1, a2⟩ := ih (i + 1) false hi (by omega)
              refine ⟨nm', a1, fun q => ?_, fun q => a2.2 ?_⟩
              · rcases a2.1 q with q | ⟨y, hy, hm⟩
                · cases q
                · exact .inr ⟨y, by omega, hm⟩
              · rcases q with q | ⟨y, hy, hm⟩
                · cases q
                · rcases Nat.eq_or_lt_of_le hy with q | q
                  · subst q; rw [hx] at hm; exact absurd (Option.some.inj hm) e
                  · exact .inr ⟨y, q, hm⟩
    have loop16 : ∀ (rec9 : Int → Option Bool) (h : Nat), h < H → ∀ (m i : Nat), i ≤ l.length → l.length < m + i → F13l16 N rec9 ((H : Int), l) (idle, 0) s (h : Int) m (i : Int) = F13j11 N rec9 (idle, 0) s (h : Int) := by
      intro rec9 h hh m
      induction m with
      | zero => intro i g1 g2; omega
      | succ m ih =>
        intro i g1 g2
        show F13b16 N rec9 ((H : Int), l) (idle, 0) s (h : Int) (F13l16 N rec9 ((H : Int), l) (idle, 0) s (h : Int) m) (i : Int) = _
        unfold F13b16
        rcases drop_cases l i with ⟨hi, _⟩ | ⟨c, hi, hc, _⟩
        · rw [if_neg (show ¬ (i : Int) < (l.length : Int) by omega)]
        · obtain ⟨z, ez, z1, z0⟩ := F53_eq ok (by omega) e1 f hc hh
          have hc' : (((H : Int), l).2)[i]? = some c := hc
          have ez' : F53 N ((H : Int), l).1 ((H : Int), l).2 c.fam (h : Int) = some (z, 0) := ez
          have hx : s[h]? = some s[h] := List.getElem?_eq_getElem (by omega)
          have nxt : ckO ((i : Int) + 1) (F13l16 N rec9 ((H : Int), l) (idle, 0) s (h : Int) m ((i : Int) + 1)) = F13j11 N rec9 (idle, 0) s (h : Int) := by
            rw [ckO_pos (by unfold InR; omega), succ_cast]
            exact ih (i + 1) hi (by omega)
          rw [if_pos (show (i : Int) < (l.length : Int) by omega), gdO_pos (by omega), Int.toNat_natCast, hc', bindO_some, ez', bindO_some, gdO_pos (by omega), Int.toNat_natCast, hx, bindO_some]
          unfold F13j17 F13j18
          by_cases e : s[h] = c.fam
          · rw [if_pos e, if_pos rfl, if_pos rfl]
            have hz0 : ¬ z = 0 := fun q => z0 q s Q hsh (by rw [hx, e])
            by_cases hz1 : z = 1
            · rw [if_pos hz1, if_neg hz0]; exact nxt
            · rw [if_neg hz1, if_neg hz0]; exact nxt
          · rw [if_neg e, if_neg (by decide), if_pos rfl]
            have hz1 : ¬ z = 1 := fun q => e (Option.some.inj (hx.symm.trans (z1 q s Q hsh)))
            rw [if_neg hz1]
            by_cases hz0 : z = 0
            · rw [if_pos hz0]; exact nxt
            · rw [if_neg hz0]; exact nxt
    have loop9 : ∀ (m h : Nat), h ≤ H → H < m + h → F13l9 N ((H : Int), l) (idle, 0) (hs, 0) s m (h : Int) = some true := by
      intro m
      induction m with
      | zero => intro h g1 g2; omega
      | succ m ih =>
        intro h g1 g2
        show F13b9 N ((H : Int), l) (idle, 0) (hs, 0) s (F13l9 N ((H : Int), l) (idle, 0) (hs, 0) s m) (h : Int) = _
        unfold F13b9
        by_cases hh : h < H
        · have b16 := loop16 (F13l9 N ((H : Int), l) (idle, 0) (hs, 0) s m) h hh N 0 (by omega) (by omega)
          rw [show ((0 : Nat) : Int) = 0 from rfl] at b16
          rw [if_pos (by omega), b16]
          unfold F13j11
          obtain ⟨nm, a1, a2⟩ := loop14 (F13l9 N ((H : Int), l) (idle, 0) (hs, 0) s m) h N 0 false (by omega) (by omega)
          rw [show ((0 : Nat) : Int) = 0 from rfl] at a1
          rw [a1]
          obtain ⟨x, hx⟩ : ∃ x, s[h]? = some x := ⟨_, List.getElem?_eq_getElem (show h < s.length by omega)⟩
          have nxt : ckO ((h : Int) + 1) (F13l9 N ((H : Int), l) (idle, 0) (hs, 0) s m ((h : Int) + 1)) = some true := by
            rw [ckO_pos (by unfold InR; omega), succ_cast]
            exact ih (h + 1) (by omega) (by omega)
          unfold F13j12 F13j13 F13j10
          by_cases hnm : nm = true
          · rw [if_pos hnm, gdO_pos (by omega), Int.toNat_natCast, hx, bindO_some, ite_self]; exact nxt
          · rw [if_neg hnm, gdO_pos (by omega), Int.toNat_natCast, hx, bindO_some]
            have h0 : ¬ x = 0 := by
              intro q
              apply hnm
              refine a2.2 (.inr ?_)
              obtain ⟨y, hq⟩ : ∃ y, Q[h]? = some y := ⟨_, List.getElem?_eq_getElem (show h < Q.length by have := hsh.1; omega)⟩
              have hm1 : y = -1 := by
                rcases hsh.2.2.1 h _ hq with ⟨r, _⟩ | ⟨d, _, hd, _, r⟩
                · exact r
                · have r2 : x = d.fam := Option.some.inj (hx.symm.trans r)
                  have r3 := ((okM_iff.1 ok).2.2.1 d (List.mem_iff_getElem?.2 ⟨_, hd⟩)).1.1
                  have r4 : d.fam = 0 := r2.symm.trans q
                  rw [r4] at r3
                  exact absurd r3.1 (by decide)
              have hmem := (hid (h : Int)).2 ⟨h, rfl, hh, shr_feas hsh h1 (okH_clrs hH' hC (by omega) (shr_ok hsh) fun x d hx' h0 => by rw [hq, hm1] at hx'; injection hx' with hx'; omega)⟩
              obtain ⟨y, hy⟩ := List.mem_iff_getElem?.1 hmem
              exact ⟨y, Nat.zero_le _, hy⟩
            rw [if_neg h0]; exact nxt
        · rw [if_neg (by omega)]; exact tail4
    unfold F13j20 F13j1
    exact loop9 N 0 (by omega) (by omega)
  have loop19 : ∀ (m w : Nat) (s Q : List Int), w ≤ 20 → 20 < m + w → shr l H hs s Q → F13l19 t N ((H : Int), l) (idle, 0) (hs, 0) m s ((2 * w : Nat) : Int) = some true := by
    intro m
    induction m with
    | zero => intro w s Q g1 g2; omega
    | succ m ih =>
      intro w s Q g1 g2 hsh
      show F13b19 t N ((H : Int), l) (idle, 0) (hs, 0) (F13l19 t N ((H : Int), l) (idle, 0) (hs, 0) m) s ((2 * w : Nat) : Int) = _
      unfold F13b19
      have hsl := hsh.2.1
      have e20 := each s Q hsh
      have nxt : ∀ s' Q', w < 20 → shr l H hs s' Q' → F13j21 (F13l19 t N ((H : Int), l) (idle, 0) (hs, 0) m) ((2 * w : Nat) : Int) s' = some true := fun s' Q' hw hsh' => by
        unfold F13j21
        rw [ckO_pos (by unfold InR; omega), show ((2 * w : Nat) : Int) + 2 = ((2 * (w + 1) : Nat) : Int) by omega]
        exact ih (w + 1) s' Q' (by omega) (by omega) hsh'
      rw [ckO_pos (by unfold InR; omega)]
      by_cases c1 : ((2 * w : Nat) : Int) + 1 < (t.length : Int)
      · rw [if_pos c1]
        by_cases c2 : ((2 * w : Nat) : Int) < 40
        · rw [if_pos c2]
          by_cases c3 : 0 < (s.length : Int)
          · obtain ⟨t1, x1⟩ : ∃ x, t[2 * w]? = some x := ⟨_, List.getElem?_eq_getElem (show 2 * w < t.length by omega)⟩
            obtain ⟨t2, x2⟩ : ∃ x, t[2 * w + 1]? = some x := ⟨_, List.getElem?_eq_getElem (show 2 * w + 1 < t.length by omega)⟩
            obtain ⟨a, ea, a0, al⟩ := F59_ok t1 (s.length : Int) (by omega) (by omega)
            obtain ⟨b, eb, b0, bl⟩ := F59_ok t2 (s.length : Int) (by omega) (by omega)
            obtain ⟨s1, y1⟩ : ∃ x, s[b.toNat]? = some x := ⟨_, List.getElem?_eq_getElem (show b.toNat < s.length by omega)⟩
            obtain ⟨s2, y2⟩ : ∃ x, s[a.toNat]? = some x := ⟨_, List.getElem?_eq_getElem (show a.toNat < s.length by omega)⟩
            obtain ⟨s3, y3⟩ : ∃ x, (s.set a.toNat s1)[b.toNat]? = some x := ⟨_, List.getElem?_eq_getElem (show b.toNat < (s.set a.toNat s1).length by rw [List.length_set]; omega)⟩
            obtain ⟨z, ez, hz⟩ := F42_eq ok (N := N) (by omega) e1 ((s.set a.toNat s1).set b.toNat s2)
            have ez' : F42 N ((H : Int), l).1 ((H : Int), l).2 ((s.set a.toNat s1).set b.toNat s2) = some z := ez
            rw [if_pos c3, gdO_pos (by omega), gdO_pos (by omega), Int.toNat_natCast, x1, bindO_some, ea, bindO_some, gdO_pos (by omega), show (((2 * w : Nat) : Int) + 1).toNat = 2 * w + 1 by omega, x2, bindO_some, eb, bindO_some, gdO_pos b0, y1, bindO_some, gdO_pos a0, y2, bindO_some, y3, bindO_some, ez', bindO_some]
            by_cases hz0 : z = 0
            · rw [if_pos hz0]
              obtain ⟨Q', hsh'⟩ := hz hz0
              exact nxt _ Q' (by omega) hsh'
            · rw [if_neg hz0]; exact nxt s Q (by omega) hsh
          · rw [if_neg c3]; exact e20
        · rw [if_neg c2]; exact e20
      · rw [if_neg c1]; exact e20
  exact loop19 N 0 s0 R (by omega) (by omega) hs0s
theorem sure5 (p : Int) (q : List A2) (t : List Int) (ht : t.length ≤ 9223372036854775807) : F13 (0 + 2100) p q t = some true := sure_any _ (by omega) (sane5 _) p q t ht
end Go.K
