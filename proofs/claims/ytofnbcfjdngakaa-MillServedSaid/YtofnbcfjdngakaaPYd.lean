/- MillServed and MillFair. No condition. -/
import Derived.Test.YtofnbcfjdngakaaPYc
namespace Go.K
open Go.RowKit
set_option linter.unusedVariables false
set_option linter.unusedSimpArgs false
theorem served_any (N : Nat) (hN : 2100 ≤ N) (hs0 : F25 N = some true) (p : Int) (q : List A2) (x0 x1 : List Int) : F9 N p q x0 x1 = some true := by
  obtain ⟨H, l, e0, hH10, ok, hn6, _⟩ := F60_eq p q (N := N) (by omega)
  have hH := ok.1
  have sane : F9j4 N = some true := by unfold F9j4; rw [hs0]; rfl
  unfold F9
  rw [e0, bindO_some, gdO_pos (show (0 : Int) ≤ (l.length : Int) by omega), gdO_pos (show (l.length : Int) ≤ 1000000 by omega)]
  have hb1 : ∀ x ∈ l.map mn1, 0 ≤ x ∧ x ≤ 24 := fun x hx => by
    obtain ⟨c, hc, rfl⟩ := List.mem_map.1 hx
    have := ((okM_iff.1 ok).2.2.1 c hc).1
    unfold vCm at this
    unfold mn1; split <;> omega
  have j3 : F9j3 N ((H : Int), l) (l.map mn1) = some true := by
    unfold F9j3
    obtain ⟨b, eb, hb⟩ := F44_ok ok (N := N) (by omega) (d := l.map mn1) (by simp) hb1
    obtain ⟨z, ez, hz⟩ := F47_eq ok (N := N) (by omega)
    have eb' : F44 N ((H : Int), l).1 ((H : Int), l).2 (l.map mn1) = some (b, 0) := eb
    have ez' : F47 N ((H : Int), l).1 ((H : Int), l).2 = some z := ez
    rw [eb', bindO_some, ez', bindO_some]
    rcases hz with ⟨hf, rfl⟩ | ⟨hf, hz2, hzl, hza⟩
    · rw [if_pos (hb.2 hf), if_pos rfl, if_pos rfl]; exact sane
    · have ef := F50_eq ok (d := l.map mn1) (by simp) hb1 z.1 (N := N) (by omega)
      have ef' : F50 N ((H : Int), l).1 ((H : Int), l).2 (l.map mn1) z.1 = some (if acc l (l.map mn1) z.1 0 0 [] = true then 0 else 54) := ef
      rw [if_neg (fun r => hf (hb.1 r)), if_pos rfl, if_neg (by omega), if_pos hz2, ef', bindO_some, if_pos hza, if_pos rfl]; exact sane
  have j1 : ∀ d : List Int, d.length = l.length → (∀ x ∈ d, 0 ≤ x ∧ x ≤ 24) → F9j1 x1 N ((H : Int), l) d (l.map mn1) = some true := fun d hd hbd => by
    unfold F9j1
    obtain ⟨b, eb, hb⟩ := F44_ok ok (N := N) (by omega) hd hbd
    obtain ⟨z, ez, hz⟩ := F46_eq ok hd hbd (N := N) (by omega)
    have ex := F50_eq ok hd hbd x1 (N := N) (by omega)
    have eb' : F44 N ((H : Int), l).1 ((H : Int), l).2 d = some (b, 0) := eb
    have ez' : F46 N ((H : Int), l).1 ((H : Int), l).2 d = some z := ez
    have ex' : F50 N ((H : Int), l).1 ((H : Int), l).2 d x1 = some (if acc l d x1 0 0 [] = true then 0 else 54) := ex
    rw [eb', bindO_some, ez', bindO_some, ex', bindO_some]
    rcases hz with ⟨hf, rfl⟩ | ⟨hf, hz2, hzl, hza⟩
    · have hno : ¬ acc l d x1 0 0 [] = true := fun r => acc_no (by omega) hd r hf
      rw [if_neg hno, if_neg (by decide)]
      unfold F9j2
      rw [if_pos rfl, if_pos (hb.2 hf), if_neg (by decide), if_pos rfl]; exact j3
    · have ef := F50_eq ok hd hbd z.1 (N := N) (by omega)
      have ef' : F50 N ((H : Int), l).1 ((H : Int), l).2 d z.1 = some (if acc l d z.1 0 0 [] = true then 0 else 54) := ef
      have go : ∀ v, F9j2 N ((H : Int), l) d (l.map mn1) (b, 0) z v = some true := fun v => by
        unfold F9j2
        rw [if_pos rfl, if_neg (fun r => hf (hb.1 r))]
        cases v with
        | true => rw [if_pos rfl, if_pos hz2, ef', bindO_some, if_pos hza, if_pos rfl]; exact j3
        | false => rw [if_neg (by decide), if_pos hz2, ef', bindO_some, if_pos hza, if_pos rfl]; exact j3
      split <;> exact go _
  have loop : ∀ (m i : Nat) (u v : List Int), i ≤ l.length → l.length < m + i → u.length = i → (∀ x ∈ u, 0 ≤ x ∧ x ≤ 24) → v.length = l.length → (∀ (j : Nat) c, j < i → l[j]? = some c → v[j]? = some (mn1 c)) → F9l5 x0 x1 N ((H : Int), l) m u v (i : Int) = some true := by
    intro m
    induction m with
    | zero => intro i u v g1 g2; omega
    | succ m ih =>
      intro i u v g1 g2 g3 g4 g5 g6
      show F9b5 x0 x1 N ((H : Int), l) (F9l5 x0 x1 N ((H : Int), l) m) u v (i : Int) = _
      unfold F9b5
      rcases drop_cases l i with ⟨hi, _⟩ | ⟨c, hi, hc, _⟩
      · rw [if_neg (show ¬ (i : Int) < (l.length : Int) by omega)]
        have hv : v = l.map mn1 := List.ext_getElem? fun j => by
          rw [List.getElem?_map]
          by_cases q : j < l.length
          · rw [g6 j l[j] (by omega) (List.getElem?_eq_getElem q), List.getElem?_eq_getElem q]; rfl
          · rw [List.getElem?_eq_none (by omega), List.getElem?_eq_none (by omega)]; rfl
        subst hv
        exact j1 u (by omega) g4
      · have go : ∀ n : Int, 0 ≤ n ∧ n ≤ 24 → F9j6 (F9l5 x0 x1 N ((H : Int), l) m) ((H : Int), l) u v (i : Int) n = some true := fun n hnb => by
          unfold F9j6
          obtain ⟨y, hy⟩ : ∃ y, v[i]? = some y := ⟨_, List.getElem?_eq_getElem (by omega)⟩
          have hc' : (((H : Int), l).2)[i]? = some c := hc
          rw [gdO_pos (by omega), gdO_pos (by omega), Int.toNat_natCast, hc', bindO_some, hy, bindO_some, ckO_pos (by unfold InR; omega), succ_cast]
          refine ih (i + 1) _ _ hi (by omega) (by simp [g3]) (fun x hx => ?_) (by rw [List.length_set]; exact g5) (fun j d hj hd => ?_)
          · rcases List.mem_append.1 hx with hx | hx
            · exact g4 x hx
            · rw [List.mem_singleton.1 hx]; exact hnb
          · rw [List.getElem?_set]
            by_cases r : i = j
            · subst r; rw [hc] at hd; injection hd with hd; subst hd
              rw [if_pos rfl, if_pos (by omega)]; rfl
            · rw [if_neg r]; exact g6 j d (by omega) hd
        rw [if_pos (show (i : Int) < (l.length : Int) by omega)]
        by_cases h0 : (i : Int) < (x0.length : Int)
        · obtain ⟨y, hy⟩ : ∃ y, x0[i]? = some y := ⟨_, List.getElem?_eq_getElem (by omega)⟩
          obtain ⟨z, ez, z0, z1⟩ := F59_ok y 5 (by decide) (by decide)
          rw [if_pos h0, gdO_pos (by omega), Int.toNat_natCast, hy, bindO_some, ez, bindO_some]
          exact go z (by omega)
        · rw [if_neg h0]; exact go 0 (by omega)
  exact loop N 0 [] _ (by omega) (by omega) rfl (fun x hx => by cases hx) (by simp) (fun j c hj => by omega)
theorem served5 (p : Int) (q : List A2) (x0 x1 : List Int) : F9 (0 + 2100) p q x0 x1 = some true := served_any _ (by omega) (sane5 _) p q x0 x1
def nx (L : Int) (c : Cm) : Int := if c.wants < (L + 1) then c.wants else (L + 1)
end Go.K
