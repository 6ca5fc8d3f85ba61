/- What becomes known later changes nothing; the hours that a source moves. -/
import Derived.Test.YtinkdlmimiefaaaGreatPM43
import Derived.Test.YtinkdlmimiefaaaGreatPG9
namespace Go.K
set_option linter.unusedVariables false
set_option linter.unusedSimpArgs false
theorem compG_sub : ∀ (l : List Int) (a : Int), (compG a l).Sublist l
  | [], a => by simp [compG]
  | b :: l, a => by
    unfold compG
    split
    · exact (compG_sub l a).cons b
    · exact (compG_sub l b).cons_cons b
theorem compI_sub (l : List Int) : (compactI l).Sublist l := by
  cases l with
  | nil => exact List.Sublist.slnil
  | cons a l => exact (compG_sub l a).cons_cons a
theorem compG_mem : ∀ (l : List Int) (a x : Int), x ∈ l → x = a ∨ x ∈ compG a l
  | [], a, x, h => by simp at h
  | b :: l, a, x, h => by
    unfold compG
    rcases List.mem_cons.1 h with rfl | h
    · split
      · rename_i e; exact .inl e
      · exact .inr List.mem_cons_self
    · split
      · exact compG_mem l a x h
      · rcases compG_mem l b x h with rfl | h1
        · exact .inr List.mem_cons_self
        · exact .inr (List.mem_cons_of_mem _ h1)
theorem compI_mem {l : List Int} {x : Int} : x ∈ compactI l ↔ x ∈ l := by
  refine ⟨fun h => (compI_sub l).subset h, fun h => ?_⟩
  cases l with
  | nil => cases h
  | cons a l =>
    rcases List.mem_cons.1 h with rfl | h
    · exact List.mem_cons_self
    · rcases compG_mem l a x h with rfl | h
      · exact List.mem_cons_self
      · exact List.mem_cons_of_mem _ h
theorem sort_le (l : List Int) : (sortI l).Pairwise (· ≤ ·) := by
  have h1 : (sortI l).Pairwise fun a b => decide (a ≤ b) = true := List.pairwise_mergeSort (le := fun x y => decide (x ≤ y)) (fun a b c => by simp only [decide_eq_true_eq]; omega) (fun a b => by simp only [Bool.or_eq_true, decide_eq_true_eq]; omega) l
  exact h1.imp fun h => of_decide_eq_true h
theorem cnt0 {k d : Int} : countsB k 0 d = decide (k ≤ d) := by simp [countsB]
/-- No note of the plot is ever withdrawn. -/
structure Un0 (p : Pl) : Prop where
  l : ∀ x ∈ p.loads, x.un = 0
  s : ∀ x ∈ p.stands, x.un = 0
  p : ∀ x ∈ p.spells, x.un = 0
theorem scn_l {p : Pl} (h : Un0 p) (dy : Int) : p.loads.filter (fun x => decide (x.kn ≤ dy)) = (scnF p dy).loads := List.filter_congr fun x hx => by
  show _ = countsB x.kn x.un dy
  rw [h.l x hx, cnt0]
theorem scn_s {p : Pl} (h : Un0 p) (dy : Int) : p.stands.filter (fun x => decide (x.kn ≤ dy)) = (scnF p dy).stands := List.filter_congr fun x hx => by
  show _ = countsB x.kn x.un dy
  rw [h.s x hx, cnt0]
theorem scn_p {p : Pl} (h : Un0 p) (dy : Int) : p.spells.filter (fun x => decide (x.kn ≤ dy)) = (scnF p dy).spells := List.filter_congr fun x hx => by
  show _ = countsB x.kn x.un dy
  rw [h.p x hx, cnt0]
theorem scn_scn (p : Pl) (dy : Int) : scnF (scnF p dy) dy = scnF p dy := by
  unfold scnF keepP
  simp only [List.filter_filter, Bool.and_self]
theorem open_now {p : Pl} {h dy : Int} (hv : plotB p = true) : openC (scnF p dy) h dy = openC p h dy := by
  have hv2 : plotB (scnF p dy) = true := (plotB_iff _).2 (refOk_keep ((plotB_iff p).1 hv) _)
  have hH : hourI (scnF p dy) h dy = hourI p h dy := by simp [hourI, hv, hv2]
  have hC : crtF (scnF p dy) dy = crtF p dy := by unfold crtF; rw [scn_scn]
  unfold openC
  rw [hH, scn_scn, hC]
theorem open_last {p : Pl} {h dy lst : Int} (hv : plotB p = true) (hu : Un0 p) (hd : isDayB dy = true) (h0 : 0 ≤ lst) (h1 : lst ≤ dy) (hD : ∀ d ∈ (datesC p).1, d ≤ dy → d ≤ lst) : openC p h lst = openC p h dy := by
  have hd2 : isDayB lst = true := by
    simp only [isDayB, Bool.and_eq_true, decide_eq_true_eq] at hd ⊢
    omega
  have hmem : ∀ y ∈ notesOf p, y.k ∈ (datesC p).1 := fun y hy => by
    unfold datesC
    rw [if_pos hv]
    rw [compI_mem]
    refine (List.mergeSort_perm _ _).mem_iff.2 ?_
    unfold daysL
    rw [List.mem_flatMap]
    refine ⟨y, hy, ?_⟩
    split <;> simp
  have key : ∀ k, k ∈ (datesC p).1 → decide (k ≤ lst) = decide (k ≤ dy) := fun k hk => by
    have := hD k hk
    by_cases e : k ≤ dy
    · rw [decide_eq_true e, decide_eq_true (this e)]
    · rw [decide_eq_false e, decide_eq_false (by omega)]
  have e : scnF p lst = scnF p dy := by
    have e1 : (scnF p lst).loads = (scnF p dy).loads := by
      rw [← scn_l hu, ← scn_l hu]
      exact List.filter_congr fun x hx => key _ (hmem (ntL x) (by unfold notesOf; exact List.mem_append_left _ (List.mem_append_left _ (List.mem_map.2 ⟨x, hx, rfl⟩))))
    have e2 : (scnF p lst).stands = (scnF p dy).stands := by
      rw [← scn_s hu, ← scn_s hu]
      exact List.filter_congr fun x hx => key _ (hmem (ntL x) (by unfold notesOf; exact List.mem_append_left _ (List.mem_append_right _ (List.mem_map.2 ⟨x, hx, rfl⟩))))
    have e3 : (scnF p lst).spells = (scnF p dy).spells := by
      rw [← scn_p hu, ← scn_p hu]
      exact List.filter_congr fun x hx => key _ (hmem (ntS x) (by unfold notesOf; exact List.mem_append_right _ (List.mem_map.2 ⟨x, hx, rfl⟩)))
    have a : ∀ q : Pl, q = ⟨q.lo, q.hi, q.loads, q.stands, q.spells, q.geese⟩ := fun _ => rfl
    rw [a (scnF p lst), e1, e2, e3]
    rfl
  have hH : hourI p h lst = hourI p h dy := by simp [hourI, hd, hd2]
  have hC : crtF p lst = crtF p dy := by unfold crtF; rw [e]
  unfold openC
  rw [hH, e, hC]
theorem dates_sort (p : Pl) : (datesC p).1.Pairwise (· ≤ ·) := by
  unfold datesC
  split
  · exact List.Pairwise.sublist (compI_sub _) (sort_le _)
  · exact List.Pairwise.nil
theorem moved_code {p : Pl} {s dy : Int} (hD : dayI p dy = 0) : (movedC p s dy).2 = (withoutF p s).2 := by
  unfold movedC
  rw [if_pos hD]
  split
  · rename_i h; rw [h]
  · rfl
theorem without_3 {p : Pl} {s : Int} (hv : plotB p = true) (h : ¬ (withoutF p s).2 = 0) : (withoutF p s).2 = 3 := by
  unfold withoutF at h ⊢
  rw [if_pos hv] at h ⊢
  split
  · rename_i h1; rw [if_pos h1] at h; exact absurd rfl h
  · rfl
theorem stoodC_at {p : Pl} {h dy : Int} (hH : hourI p h dy = 0) : stoodC p h dy = ((stoodAtF (scnF p dy) (crtF p dy) h).1, if (stoodAtF (scnF p dy) (crtF p dy) h).2 then 0 else 14) := by
  unfold stoodC
  rw [if_pos hH]
  unfold stoodAtF
  split <;> simp
theorem moved_at {p : Pl} {s dy : Int} (hv : plotB p = true) (hd : isDayB dy = true) (hw : (withoutF p s).2 = 0) {x : Ld} (hx : x ∈ p.loads) :
    decide (x.hr ∈ (movedC p s dy).1) = !((decide ((stoodC p x.hr dy).1.lo = (stoodC (withoutF p s).1 x.hr dy).1.lo) && decide ((stoodC p x.hr dy).1.hi = (stoodC (withoutF p s).1 x.hr dy).1.hi)) && decide ((stoodC p x.hr dy).2 = (stoodC (withoutF p s).1 x.hr dy).2)) := by
  have hr := (plotB_iff p).1 hv
  have hD : dayI p dy = 0 := by simp [dayI, hv, hd]
  have hv2 : plotB (withoutF p s).1 = true := without_ok hv hw
  have hh : isHourB x.hr = true := by
    have := okL_sh (by decide) (hr.o1 x hx)
    simp only [isHourB, Bool.and_eq_true, decide_eq_true_eq]
    omega
  have h1 : hourI p x.hr dy = 0 := by simp [hourI, hv, hh, hd]
  have h2 : hourI (withoutF p s).1 x.hr dy = 0 := by simp [hourI, hv2, hh, hd]
  have e : (movedC p s dy).1 = compactI (sortI ((p.loads.filter (movedB p (withoutF p s).1 dy)).map Ld.hr)) := by
    unfold movedC
    rw [if_pos hD, if_pos hw]
  have hm : decide (x.hr ∈ (movedC p s dy).1) = movedB p (withoutF p s).1 dy x := by
    rw [Bool.eq_iff_iff, decide_eq_true_eq, e, compI_mem]
    rw [show x.hr ∈ sortI ((p.loads.filter (movedB p (withoutF p s).1 dy)).map Ld.hr) ↔ x.hr ∈ (p.loads.filter (movedB p (withoutF p s).1 dy)).map Ld.hr from (List.mergeSort_perm _ _).mem_iff]
    rw [List.mem_map]
    constructor
    · rintro ⟨z, hz, ez⟩
      have := (List.mem_filter.1 hz).2
      unfold movedB at this ⊢
      rw [ez] at this
      exact this
    · intro h
      exact ⟨x, List.mem_filter.2 ⟨hx, h⟩, rfl⟩
  rw [hm, stoodC_at h1, stoodC_at h2]
  unfold movedB
  congr 2
  cases (stoodAtF (scnF p dy) (crtF p dy) x.hr).2 <;> cases (stoodAtF (scnF (withoutF p s).1 dy) (crtF (withoutF p s).1 dy) x.hr).2 <;> rfl
theorem last_step {D : List Int} {k : Nat} {d dy lst : Int} (hp : D.Pairwise (· ≤ ·)) (hx : D[k]? = some d) (h : ∀ i e, i < k → D[i]? = some e → e ≤ dy → e ≤ lst) : ∀ i e, i < k + 1 → D[i]? = some e → e ≤ dy → e ≤ if d ≤ dy then d else lst := fun i e hi he hed => by
  have hk := lt_of_get hx
  have hie := lt_of_get he
  rcases Nat.lt_or_ge i k with h1 | h1
  · have h2 := h i e h1 he hed
    have h3 := List.pairwise_iff_getElem.1 hp i k hie hk h1
    rw [List.getElem?_eq_getElem hk] at hx
    rw [List.getElem?_eq_getElem hie] at he
    injection hx with hx
    injection he with he
    rw [hx, he] at h3
    split
    · exact h3
    · exact h2
  · have : i = k := by omega
    subst this
    rw [hx] at he
    injection he with he
    subst he
    rw [if_pos hed]
    exact Int.le_refl _
theorem madeB_un (x0 x1 : Int) (ls ss ps : List A4) (rt : Bool) : Un0 (madeB x0 x1 ls ss ps rt) := by
  have a1 := Int.emod_nonneg x0 (show (200 : Int) ≠ 0 by decide)
  have a2 := Int.emod_lt_of_pos x0 (show (0 : Int) < 200 by decide)
  exact ⟨fun x hx => ((made_lok x0 ls).hours x hx).2.2.2.2.2.2.2.1, fun x hx => (mStandsB_ok (made_lok x0 ls) a1 (by omega) (ss.take 6) 0 x hx).2.2.2.2.2, fun x hx => (mSpells_ok (ps.take 4) 0 x hx).2.2.2.2.2⟩
end Go.K
