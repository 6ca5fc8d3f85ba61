/- The made plot whose stands may be wrong: it is valid, its loads are in order. -/
import Derived.Test.YtinkdlmimiefaaaGreatPM33
namespace Go.K
set_option linter.unusedVariables false
set_option linter.unusedSimpArgs false
def sStood (rt : Bool) (xs : List (Ld × Int)) (l : Int) (r : A4) : Int := if rt then thereF xs (18 + r.a % 50) l else r.b % 200
def sOneB (rt : Bool) (xs : List (Ld × Int)) (l j : Int) (r : A4) : Ld := ⟨21 + j, 18 + r.a % 50, (toldF (sStood rt xs l r) r.c).lo, (toldF (sStood rt xs l r) r.c).hi, r.d % 20, 0⟩
def mStandsB (rt : Bool) (xs : List (Ld × Int)) (l : Int) : Int → List A4 → List Ld
  | _, [] => []
  | j, r :: rs => sOneB rt xs l j r :: mStandsB rt xs l (j + 1) rs
def madeB (x0 x1 : Int) (ls ss ps : List A4) (rt : Bool) : Pl :=
  ⟨max 0 (x0 % 200 - x0.tdiv 200 % 9), x0 % 200 + x0.tdiv 1800 % 9, (mLoads 0 20 (x0 % 200) (ls.take 6)).map Prod.fst, mStandsB rt (mLoads 0 20 (x0 % 200) (ls.take 6)) (x0 % 200) 0 (ss.take 6), mSpells 0 (ps.take 4), x1 % 4⟩
theorem mStandsB_len (rt : Bool) (xs : List (Ld × Int)) (l : Int) : ∀ (rs : List A4) (j : Int), (mStandsB rt xs l j rs).length = rs.length
  | [], _ => rfl
  | r :: rs, j => by simp only [mStandsB, List.length_cons, mStandsB_len rt xs l rs]
theorem mStandsB_snoc (rt : Bool) (xs : List (Ld × Int)) (l : Int) (r : A4) : ∀ (rs : List A4) (j : Int), mStandsB rt xs l j (rs ++ [r]) = mStandsB rt xs l j rs ++ [sOneB rt xs l (j + rs.length) r]
  | [], j => by simp [mStandsB]
  | s :: rs, j => by
    rw [List.cons_append, mStandsB, mStandsB_snoc rt xs l r rs, mStandsB, List.cons_append]
    have e : j + 1 + (rs.length : Int) = j + ((s :: rs).length : Nat) := by rw [List.length_cons]; omega
    rw [e]
theorem made2B {ss : List A4} {j : Nat} {r : A4} {xs : List (Ld × Int)} {l0 sw : Int} {rt : Bool} (hx : ss[j]? = some r) (hs : sw = if rt then thereF xs (18 + r.a % 50) l0 else r.b % 200) :
    mStandsB rt xs l0 0 (ss.take j) ++ [⟨21 + (j : Int), 18 + r.a % 50, if sw - r.c % 12 > 0 then sw - r.c % 12 else 0, sw + r.c.tdiv 12 % 12, r.d % 20, 0⟩] = mStandsB rt xs l0 0 (ss.take (j + 1)) := by
  have e : sw = sStood rt xs l0 r := hs
  rw [take_get hx, mStandsB_snoc, sOneB, take_len hx, ← e, max0, toldF, Int.zero_add]
theorem mStandsB_ok {xs : List (Ld × Int)} {k h l : Int} {rt : Bool} (hx : LOk k h l xs) (h0 : 0 ≤ l) (h1 : l ≤ 200) : ∀ (rs : List A4) (j : Int), ∀ x ∈ mStandsB rt xs l j rs, (20 + j < x.src ∧ x.src ≤ 20 + j + rs.length) ∧ (18 ≤ x.hr ∧ x.hr ≤ 67) ∧ (0 ≤ x.lo ∧ x.lo ≤ x.hi ∧ x.hi ≤ 10000) ∧ 0 ≤ x.kn ∧ x.kn < 20 ∧ x.un = 0
  | [], _, x, hm => by simp [mStandsB] at hm
  | r :: rs, j, x, hm => by
    rw [mStandsB, List.mem_cons] at hm
    simp only [List.length_cons]
    rcases hm with rfl | hm
    · have a1 := Int.emod_nonneg r.a (show (50 : Int) ≠ 0 by decide)
      have a2 := Int.emod_lt_of_pos r.a (show (0 : Int) < 50 by decide)
      have d1 := Int.emod_nonneg r.d (show (20 : Int) ≠ 0 by decide)
      have d2 := Int.emod_lt_of_pos r.d (show (0 : Int) < 20 by decide)
      have hb := hx.there_bd h0 (18 + r.a % 50)
      have hs : 0 ≤ sStood rt xs l r ∧ sStood rt xs l r ≤ 200 := by
        unfold sStood
        split <;> omega
      have ht := told_in (c := r.c) hs.1 hs.2
      refine ⟨⟨by simp only [sOneB]; omega, by simp only [sOneB]; omega⟩, ⟨by simp only [sOneB]; omega, by simp only [sOneB]; omega⟩, ⟨ht.1, by simp only [sOneB]; omega, ht.2.2.2⟩, d1, d2, rfl⟩
    · have := mStandsB_ok hx h0 h1 rs (j + 1) x hm
      refine ⟨by omega, this.2⟩
theorem mStandsB_rise {xs : List (Ld × Int)} {k h l : Int} {rt : Bool} (hx : LOk k h l xs) (h0 : 0 ≤ l) (h1 : l ≤ 200) : ∀ (rs : List A4) (j : Int), (mStandsB rt xs l j rs).Pairwise fun x y => x.src < y.src
  | [], _ => List.Pairwise.nil
  | r :: rs, j => by
    refine List.pairwise_cons.2 ⟨fun x hm => ?_, mStandsB_rise hx h0 h1 rs (j + 1)⟩
    have := (mStandsB_ok hx h0 h1 rs (j + 1) x hm).1
    simp only [sOneB]; omega
section made
variable (x0 x1 : Int) (ls ss ps : List A4) (rt : Bool)
theorem madeB_valid : plotB (madeB x0 x1 ls ss ps rt) = true := by
  have a1 := Int.emod_nonneg x0 (show (200 : Int) ≠ 0 by decide)
  have a2 := Int.emod_lt_of_pos x0 (show (0 : Int) < 200 by decide)
  have b1 := Int.emod_nonneg (x0.tdiv 200) (show (9 : Int) ≠ 0 by decide)
  have c1 := Int.emod_nonneg (x0.tdiv 1800) (show (9 : Int) ≠ 0 by decide)
  have c2 := Int.emod_lt_of_pos (x0.tdiv 1800) (show (0 : Int) < 9 by decide)
  have g1 := Int.emod_nonneg x1 (show (4 : Int) ≠ 0 by decide)
  have g2 := Int.emod_lt_of_pos x1 (show (0 : Int) < 4 by decide)
  have hk := made_lok x0 ls
  have hl := mLoads_len (ls.take 6) 0 20 (x0 % 200)
  have hs := mStandsB_len rt (mLoads 0 20 (x0 % 200) (ls.take 6)) (x0 % 200) (ss.take 6) 0
  have hp := mSpells_len (ps.take 4) 0
  have k1 : (ls.take 6).length ≤ 6 := by rw [List.length_take]; omega
  have k2 : (ss.take 6).length ≤ 6 := by rw [List.length_take]; omega
  have k3 : (ps.take 4).length ≤ 4 := by rw [List.length_take]; omega
  have o1 := hk.hours
  have o2 := mStandsB_ok (rt := rt) hk a1 (by omega) (ss.take 6) 0
  have o3 := mSpells_ok (ps.take 4) 0
  refine (plotB_iff _).2 ⟨?_, g1, by show x1 % 4 ≤ 60; omega, by show (List.map Prod.fst _).length ≤ 60; rw [List.length_map]; omega, by show (mStandsB _ _ _ _ _).length ≤ 60; omega, by show (mSpells _ _).length ≤ 60; omega, fun x hx => ?_, adj_iff.2 hk.rise, fun x hx => ?_, adj_iff.2 (mStandsB_rise hk a1 (by omega) _ _), fun x hx => ?_, adj_iff.2 (mSpells_rise _ _), ?_⟩
  · show areSheavesB (max 0 (x0 % 200 - x0.tdiv 200 % 9)) (x0 % 200 + x0.tdiv 1800 % 9) = true
    simp only [areSheavesB, Bool.and_eq_true, decide_eq_true_eq]
    omega
  · have h := o1 x hx
    obtain ⟨f1, f2, f3, f4⟩ := h.2.2.2.2.1
    have e : loadB x.src x.hr x.lo x.hi x.kn x.un = true := by
      simp only [loadB, validB, isDayB, isHourB, areSheavesB, Bool.and_eq_true, Bool.or_eq_true, decide_eq_true_eq]
      omega
    rw [okL, e]; rfl
  · have h := o2 x hx
    have e : loadB x.src x.hr x.lo x.hi x.kn x.un = true := by
      simp only [loadB, validB, isDayB, isHourB, areSheavesB, Bool.and_eq_true, Bool.or_eq_true, decide_eq_true_eq]
      omega
    rw [okL, e]; rfl
  · have h := o3 x hx
    have e : spellB x.src x.kd x.fr x.to x.kn x.un = true := by
      simp only [spellB, validB, isDayB, isHourB, Bool.and_eq_true, Bool.or_eq_true, decide_eq_true_eq]
      omega
    rw [okS, e]; rfl
  · unfold srcsOf
    rw [List.nodup_append, List.nodup_append]
    refine ⟨⟨rise_nodup hk.rise, rise_nodup (mStandsB_rise hk a1 (by omega) _ _), ?_⟩, rise_nodup (mSpells_rise _ _), ?_⟩
    · intro a ha b hb
      obtain ⟨x, hx, rfl⟩ := List.mem_map.1 ha
      obtain ⟨y, hy, rfl⟩ := List.mem_map.1 hb
      have := o1 x hx; have := o2 y hy; omega
    · intro a ha b hb
      obtain ⟨y, hy, rfl⟩ := List.mem_map.1 hb
      have hy3 := o3 y hy
      rcases List.mem_append.1 ha with ha | ha
      · obtain ⟨x, hx, rfl⟩ := List.mem_map.1 ha
        have := o1 x hx; omega
      · obtain ⟨x, hx, rfl⟩ := List.mem_map.1 ha
        have := o2 x hx; omega
theorem madeB_few : (madeB x0 x1 ls ss ps rt).loads.length < 20 := by
  show (List.map Prod.fst (mLoads 0 20 (x0 % 200) (ls.take 6))).length < 20
  rw [List.length_map, mLoads_len, List.length_take]
  omega
end made
end Go.K
