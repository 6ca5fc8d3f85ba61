/- Sharings of the mill, mills that are shut at an hour, Comes and Idle: what they answer of every sharing that gives each comer its hours. No condition. -/
import Derived.Test.YtofnbcfjdngakaaPY7
namespace Go.K
open Go.RowKit
set_option linter.unusedVariables false
set_option linter.unusedSimpArgs false
def posS (l : List Cm) (s : List Int) (h : Nat) (x : Int) : Prop := (x = -1 ∧ s[h]? = some 0) ∨ ∃ c, 0 ≤ x ∧ l[x.toNat]? = some c ∧ bt c.hrs h = true ∧ s[h]? = some c.fam
/-- a sharing, by comers' indices, that gives each its hours -/
def shr (l : List Cm) (H : Nat) (hs s : List Int) (Q : List Int) : Prop := Q.length = H ∧ s.length = H ∧ (∀ h x, Q[h]? = some x → posS l s h x) ∧ ∀ j, j < l.length → hs[j]? = some (cnt Q j)
/-! shut at an hour -/
def clr (v : Nat) (c : Cm) : Cm := ⟨c.fam, andNotI c.hrs ((2 ^ v : Nat) : Int), c.wants⟩
def clrs (v : Nat) (fs : List Int) (c : Cm) : Cm := if c.fam ∈ fs then clr v c else c
theorem clr_bt {x : Int} {v : Nat} (hx : 0 ≤ x ∧ x < 16777216) (hv : v < 24) (h : Nat) : bt (andNotI x ((2 ^ v : Nat) : Int)) h = (bt x h && !decide (v = h)) := by
  unfold bt andNotI
  rw [Int.toNat_natCast, Int.toNat_natCast, Nat.testBit_and]
  have hlt : 2 ^ v < 2 ^ 64 := Nat.pow_lt_pow_right (by decide) (by omega)
  have e : 18446744073709551615 - 2 ^ v = 2 ^ 64 - (2 ^ v + 1) := by
    have : (2 : Nat) ^ 64 = 18446744073709551616 := by decide
    omega
  rw [e, Nat.testBit_two_pow_sub_succ hlt, Nat.testBit_two_pow]
  cases hb : x.toNat.testBit h with
  | false => rfl
  | true =>
    have h24 : h < 24 := bt_lt (x := x) (H := 24) ⟨hx.1, show x < 16777216 from hx.2⟩ hb
    rw [decide_eq_true (show h < 64 by omega)]; rfl
theorem clr_le (x y : Int) (hx : 0 ≤ x) : 0 ≤ andNotI x y ∧ andNotI x y ≤ x := by
  unfold andNotI
  have := Nat.and_le_left (n := x.toNat) (m := 18446744073709551615 - y.toNat)
  omega
theorem F118_eq (fs : List Int) (p : Int) (hn : fs.length ≤ 1000) {N : Nat} (hN : 2000 ≤ N) : ∃ z, F110 N fs p = some z ∧ (z = true ↔ p ∈ fs) := by
  have loop : ∀ (m i : Nat), i ≤ fs.length → fs.length < m + i → ∃ z, F118l1 fs p m (i : Int) = some z ∧ (0 ≤ z ↔ ∃ j : Nat, i ≤ j ∧ fs[j]? = some p) := by
    intro m
    induction m with
    | zero => intro i h1 h2; omega
    | succ m ih =>
      intro i h1 h2
      show ∃ z, F118b1 fs p (F118l1 fs p m) (i : Int) = _ ∧ _
      unfold F118b1
      rcases drop_cases fs i with ⟨hi, _⟩ | ⟨c, hi, hc, _⟩
      · rw [if_neg (by omega)]
        refine ⟨-1, rfl, fun q => by omega, fun ⟨j, hj, hm⟩ => ?_⟩
        have := (List.getElem?_eq_some_iff.1 hm).1; omega
      · rw [if_pos (by omega), gdO_pos (by omega), Int.toNat_natCast, hc, bindO_some]
        by_cases e : p = c
        · rw [if_pos e]
          exact ⟨_, rfl, fun _ => ⟨i, Nat.le_refl _, by rw [hc, e]⟩, fun _ => by omega⟩
        · rw [if_neg e, ckO_pos (by unfold InR; omega), succ_cast]
          obtain ⟨z, a1, a2⟩ := ih (i + 1) hi (by omega)
          refine ⟨z, a1, a2.trans ⟨fun ⟨j, hj, r⟩ => ⟨j, by omega, r⟩, fun ⟨j, hj, r⟩ => ⟨j, ?_, r⟩⟩⟩
          rcases Nat.eq_or_lt_of_le hj with q | q
          · subst q; rw [hc] at r; exact absurd (Option.some.inj r).symm e
          · exact q
  obtain ⟨z, a1, a2⟩ := loop N 0 (by omega) (by omega)
  rw [show ((0 : Nat) : Int) = 0 from rfl] at a1
  have mem : (∃ j : Nat, 0 ≤ j ∧ fs[j]? = some p) ↔ p ∈ fs := ⟨fun ⟨j, _, r⟩ => List.mem_iff_getElem?.2 ⟨j, r⟩, fun q => by
    obtain ⟨j, r⟩ := List.mem_iff_getElem?.1 q
    exact ⟨j, Nat.zero_le _, r⟩⟩
  unfold F110 F118
  rw [a1, bindO_some]
  by_cases hz : 0 ≤ z
  · rw [if_pos hz]; exact ⟨true, rfl, fun _ => mem.1 (a2.1 hz), fun _ => rfl⟩
  · rw [if_neg hz]; exact ⟨false, rfl, fun q => (by cases q), fun q => absurd (a2.2 (mem.2 q)) hz⟩
theorem F91_eq {H : Nat} (hH : H ≤ 24) {l : List Cm} (hC : okC l H) (hn : l.length ≤ 12) {v : Nat} (hv : v < 24) {fs : List Int} (hf : fs.length ≤ 1000) {N : Nat} (hN : 2000 ≤ N) (h : Int) : F91 N h l (v : Int) fs = some (h, l.map (clrs v fs)) := by
  unfold F91 F64
  rw [gdO_pos (by omega), bindO_some]
  have hp := p2_ck hv
  have loop : ∀ (m i : Nat) (o : List Cm), i ≤ l.length → l.length < m + i → (∀ j : Nat, o[j]? = if j < i then l[j]?.map (clrs v fs) else l[j]?) → F91l1 h (v : Int) fs N l m o (i : Int) = some (h, l.map (clrs v fs)) := by
    intro m
    induction m with
    | zero => intro i o h1 h2; omega
    | succ m ih =>
      intro i o h1 h2 h3
      show F91b1 h (v : Int) fs N l (F91l1 h (v : Int) fs N l m) o (i : Int) = _
      unfold F91b1
      rcases drop_cases l i with ⟨hi, _⟩ | ⟨c, hi, hc, _⟩
      · rw [if_neg (by omega)]
        have : o = l.map (clrs v fs) := List.ext_getElem? fun j => by
          rw [h3 j, List.getElem?_map]
          by_cases q : j < i
          · rw [if_pos q]
          · rw [if_neg q, List.getElem?_eq_none (by omega)]; rfl
        rw [this]
      · have ho : o[i]? = some c := by rw [h3 i, if_neg (by omega), hc]
        have hlo : i < o.length := (List.getElem?_eq_some_iff.1 ho).1
        have hcb := okC_24 hH hC hc
        obtain ⟨z, ez, hz⟩ := F118_eq fs c.fam hf hN
        rw [if_pos (by omega), gdO_pos (by omega), Int.toNat_natCast, ho, bindO_some, ez, bindO_some]
        unfold F91j2
        by_cases hzt : z = true
        · rw [if_pos hzt, gdO_pos (by omega), Int.toNat_natCast, p2_cast', ckO_pos (by unfold InR; omega), gdO_pos (by omega), gdO_pos (by omega), ckO_pos (by unfold InR; omega), ckO_pos (by unfold InR; omega), succ_cast]
          refine ih (i + 1) _ hi (by omega) fun j => ?_
          rw [List.getElem?_set]
          by_cases q : i = j
          · subst q
            rw [if_pos rfl, if_pos hlo, if_pos (by omega), hc]
            show _ = some (clrs v fs c)
            unfold clrs
            rw [if_pos (hz.1 hzt)]; rfl
          · rw [if_neg q, h3 j]
            have : (j < i + 1) ↔ (j < i) := by omega
            simp only [this]
        · rw [if_neg hzt, ckO_pos (by unfold InR; omega), succ_cast]
          refine ih (i + 1) o hi (by omega) fun j => ?_
          rw [h3 j]
          by_cases q : i = j
          · subst q
            rw [if_neg (by omega), if_pos (by omega), hc]
            show _ = some (clrs v fs c)
            unfold clrs
            rw [if_neg (fun r => hzt (hz.2 r))]
          · have : (j < i + 1) ↔ (j < i) := by omega
            simp only [this]
  exact loop N 0 l (by omega) (by omega) fun j => by rw [if_neg (by omega)]
theorem F93_eq (h : Int) {l : List Cm} (hn : l.length ≤ 1000) {N : Nat} (hN : 2000 ≤ N) : F93 N h l = some (l.map (·.fam)) := by
  have loop : ∀ (m i : Nat) (o : List Int), i ≤ l.length → l.length < m + i → o.length = i → F93l1 l m o (i : Int) = some (o ++ (l.drop i).map (·.fam)) := by
    intro m
    induction m with
    | zero => intro i o h1 h2; omega
    | succ m ih =>
      intro i o h1 h2 h3
      show F93b1 l (F93l1 l m) o (i : Int) = _
      unfold F93b1
      rcases drop_cases l i with ⟨hi, e⟩ | ⟨c, hi, hc, e⟩
      · rw [if_neg (by omega), e]; simp
      · rw [if_pos (by omega), gdO_pos (by omega), Int.toNat_natCast, hc, bindO_some, gdO_pos (by omega), ckO_pos (by unfold InR; omega), succ_cast, ih (i + 1) _ hi (by omega) (by simp; omega), e]
        simp
  have := loop N 0 [] (by omega) (by omega) rfl
  rw [List.drop_zero, List.nil_append] at this
  exact this
theorem okC_clrs {l : List Cm} {H : Nat} (hC : okC l H) (v : Nat) (fs : List Int) : okC (l.map (clrs v fs)) H := by
  intro c hc
  obtain ⟨d, hd, rfl⟩ := List.mem_map.1 hc
  have := hC d hd
  unfold clrs
  split
  · have := clr_le d.hrs ((2 ^ v : Nat) : Int) this.1
    exact ⟨this.1, by show andNotI d.hrs ((2 ^ v : Nat) : Int) < _; omega⟩
  · exact this
theorem okH_clrs {l : List Cm} {H : Nat} (hH : H ≤ 24) (hC : okC l H) {v : Nat} (hv : v < 24) {fs : List Int} {Q : List Int} (hQ : okH l Q) (hq : ∀ (x : Int) d, Q[v]? = some x → 0 ≤ x → l[x.toNat]? = some d → d.fam ∉ fs) : okH (l.map (clrs v fs)) Q := by
  intro h x hx
  rcases hQ h x hx with q | ⟨a, d, hd, hb⟩
  · exact .inl q
  · refine .inr ⟨a, clrs v fs d, by rw [List.getElem?_map, hd]; rfl, ?_⟩
    unfold clrs
    by_cases e : d.fam ∈ fs
    · rw [if_pos e]
      show bt (andNotI d.hrs ((2 ^ v : Nat) : Int)) h = true
      rw [clr_bt (okC_24 hH hC hd) hv, hb]
      have : v ≠ h := fun q => by subst q; exact hq x d hx a hd e
      rw [decide_eq_false this]; rfl
    · rw [if_neg e]; exact hb
end Go.K
