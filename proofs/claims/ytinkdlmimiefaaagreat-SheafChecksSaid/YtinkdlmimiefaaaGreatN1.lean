/- The two ways to the days are one; the example plot. By an AI agent; no person has read it. -/
import Derived.Test.YtinkdlmimiefaaaGreatM20
import Derived.Test.YtinkdlmimiefaaaGreatM22
import Derived.Test.YtinkdlmimiefaaaGreatM24
open Go Go.Proofs Go.RowKit
namespace Go.K
theorem sorted_ext : ∀ {l m : List Int}, l.Pairwise (· < ·) → m.Pairwise (· < ·) → (∀ x, x ∈ l ↔ x ∈ m) → l = m
  | [], [], _, _, _ => rfl
  | [], b :: m, _, _, h => by have := (h b).2 (by simp); cases this
  | a :: l, [], _, _, h => by have := (h a).1 (by simp); cases this
  | a :: l, b :: m, h1, h2, h => by
    obtain ⟨a1, a2⟩ := List.pairwise_cons.1 h1
    obtain ⟨b1, b2⟩ := List.pairwise_cons.1 h2
    have e : a = b := by
      rcases List.mem_cons.1 ((h a).1 (by simp)) with e | e
      · exact e
      · rcases List.mem_cons.1 ((h b).2 (by simp)) with f | f
        · exact f.symm
        · have := b1 a e; have := a1 b f; omega
    subst e
    rw [sorted_ext a2 b2 fun x => ⟨fun hx => ?_, fun hx => ?_⟩]
    · rcases List.mem_cons.1 ((h x).1 (List.mem_cons_of_mem _ hx)) with e | e
      · have := a1 x hx; omega
      · exact e
    · rcases List.mem_cons.1 ((h x).2 (List.mem_cons_of_mem _ hx)) with e | e
      · have := b1 x hx; omega
      · exact e
def insI (x : Int) : List Int → List Int
  | [] => [x]
  | y :: l => if x ≤ y then x :: (y :: l).filter (fun z => decide (z ≠ x)) else y :: insI x l
theorem put_true (x : Int) : ∀ (l acc : List Int), l.foldl (putStep x) (acc, true) = (acc ++ l.filter (fun z => decide (z ≠ x)), true)
  | [], acc => by simp
  | y :: l, acc => by
    rw [List.foldl_cons]
    have : putStep x (acc, true) y = (if y = x then acc else acc ++ [y], true) := by simp [putStep]
    rw [this, put_true x l]
    by_cases h : y = x <;> simp [h]
theorem put_ins (x : Int) : ∀ (l acc : List Int), (if (l.foldl (putStep x) (acc, false)).2 then (l.foldl (putStep x) (acc, false)).1 else (l.foldl (putStep x) (acc, false)).1 ++ [x]) = acc ++ insI x l
  | [], acc => by simp [insI]
  | y :: l, acc => by
    rw [List.foldl_cons]
    by_cases h : x ≤ y
    · have : putStep x (acc, false) y = (if y = x then acc ++ [x] else acc ++ [x] ++ [y], true) := by simp [putStep, h]
      rw [this, put_true, insI, if_pos h]
      by_cases e : y = x <;> simp [e]
    · have : putStep x (acc, false) y = (acc ++ [y], false) := by
        have : ¬ y = x := by omega
        simp [putStep, h, this]
      rw [this, put_ins x l, insI, if_neg h]; simp
theorem putF_ins (x : Int) (l : List Int) : putF x l = insI x l := put_ins x l []
theorem mem_ins {x z : Int} : ∀ {l : List Int}, z ∈ insI x l ↔ z = x ∨ z ∈ l
  | [] => by simp [insI]
  | y :: l => by
    rw [insI]
    split
    · rw [List.mem_cons, List.mem_filter]
      by_cases e : z = x <;> simp [e]
    · rw [List.mem_cons, mem_ins, List.mem_cons]
      constructor
      · rintro (h | h | h) <;> simp [h]
      · rintro (h | h | h) <;> simp [h]
theorem sorted_ins {x : Int} : ∀ {l : List Int}, l.Pairwise (· < ·) → (insI x l).Pairwise (· < ·)
  | [], _ => by simp [insI]
  | y :: l, h => by
    obtain ⟨h1, h2⟩ := List.pairwise_cons.1 h
    rw [insI]
    split
    · rename_i hx
      refine List.pairwise_cons.2 ⟨fun z hz => ?_, h.filter _⟩
      obtain ⟨ha, hb⟩ := List.mem_filter.1 hz
      have hb' : z ≠ x := of_decide_eq_true hb
      rcases List.mem_cons.1 ha with e | e
      · omega
      · have := h1 z e; omega
    · rename_i hx
      refine List.pairwise_cons.2 ⟨fun z hz => ?_, sorted_ins h2⟩
      rcases mem_ins.1 hz with e | e
      · omega
      · exact h1 z e
theorem datesL_sorted : ∀ (l : List Nt) {acc : List Int}, acc.Pairwise (· < ·) → (datesL acc l).Pairwise (· < ·)
  | [], _, h => h
  | y :: l, acc, h => by
    have : datesL acc (y :: l) = datesL (putF (if y.u > y.k then y.u else y.k) (putF y.k acc)) l := rfl
    rw [this, putF_ins, putF_ins]
    exact datesL_sorted l (sorted_ins (sorted_ins h))
theorem mem_datesL {z : Int} : ∀ (l : List Nt) {acc : List Int}, z ∈ datesL acc l ↔ z ∈ acc ∨ ∃ y ∈ l, z = y.k ∨ z = (if y.u > y.k then y.u else y.k)
  | [], acc => by simp [datesL]
  | y :: l, acc => by
    have : datesL acc (y :: l) = datesL (putF (if y.u > y.k then y.u else y.k) (putF y.k acc)) l := rfl
    rw [this, putF_ins, putF_ins, mem_datesL l, mem_ins, mem_ins]
    constructor
    · rintro ((h | h | h) | ⟨q, h1, h2⟩)
      · exact .inr ⟨y, by simp, .inr h⟩
      · exact .inr ⟨y, by simp, .inl h⟩
      · exact .inl h
      · exact .inr ⟨q, by simp [h1], h2⟩
    · rintro (h | ⟨q, h1, h2⟩)
      · exact .inl (.inr (.inr h))
      · rcases List.mem_cons.1 h1 with e | e
        · subst e
          rcases h2 with h2 | h2
          · exact .inl (.inr (.inl h2))
          · exact .inl (.inl h2)
        · exact .inr ⟨q, e, h2⟩
theorem comp_sorted : ∀ (l : List Int) {a : Int}, (a :: l).Pairwise (· ≤ ·) → (a :: compG a l).Pairwise (· < ·) ∧ ∀ z, z ∈ a :: compG a l ↔ z ∈ a :: l
  | [], a, _ => by simp [compG]
  | b :: l, a, h => by
    obtain ⟨h1, h2⟩ := List.pairwise_cons.1 h
    obtain ⟨h3, h4⟩ := List.pairwise_cons.1 h2
    rw [compG]
    split
    · rename_i e
      subst e
      obtain ⟨i1, i2⟩ := comp_sorted l (a := b) h2
      exact ⟨i1, fun z => by rw [i2 z]; simp⟩
    · rename_i e
      obtain ⟨i1, i2⟩ := comp_sorted l (a := b) h2
      refine ⟨List.pairwise_cons.2 ⟨fun z hz => ?_, i1⟩, fun z => by rw [List.mem_cons, i2 z, List.mem_cons (a := z) (b := a)]⟩
      have hab := h1 b (by simp)
      rcases List.mem_cons.1 hz with f | f
      · omega
      · have := (List.pairwise_cons.1 i1).1 z f; omega
theorem compact_sorted {l : List Int} (h : l.Pairwise (· ≤ ·)) : (compactI l).Pairwise (· < ·) ∧ ∀ z, z ∈ compactI l ↔ z ∈ l := by
  cases l with
  | nil => simp [compactI]
  | cons a l => exact comp_sorted l h
theorem sortI_sorted (l : List Int) : (sortI l).Pairwise (· ≤ ·) := by
  have := List.pairwise_mergeSort (le := fun (x y : Int) => decide (x ≤ y)) (by intro a b c; simp; omega) (by intro a b; simp; omega) l
  exact this.imp (fun h => of_decide_eq_true h)
theorem mem_sortI {l : List Int} {z : Int} : z ∈ sortI l ↔ z ∈ l := (List.mergeSort_perm l _).mem_iff
theorem mem_days {z : Int} {l : List Nt} : z ∈ daysL l ↔ ∃ y ∈ l, z = y.k ∨ (y.u ≠ 0 ∧ z = y.u) := by
  rw [daysL, List.mem_flatMap]
  constructor
  · rintro ⟨y, h1, h2⟩
    refine ⟨y, h1, ?_⟩
    split at h2
    · exact .inl (by simpa using h2)
    · rename_i hu
      rcases List.mem_cons.1 h2 with e | e
      · exact .inl e
      · exact .inr ⟨hu, by simpa using e⟩
  · rintro ⟨y, h1, h2⟩
    refine ⟨y, h1, ?_⟩
    split
    · rename_i hu
      rcases h2 with e | e
      · simp [e]
      · exact absurd hu e.1
    · rcases h2 with e | e
      · simp [e]
      · simp [e.2]
theorem valid_ku {s k u : Int} (h : validB s k u = true) : 0 ≤ k ∧ (u = 0 ∨ k < u) := by
  simp only [validB, isDayB, Bool.and_eq_true, Bool.or_eq_true, decide_eq_true_eq] at h
  omega
theorem notes_ku {p : Pl} (h : plotB p = true) : ∀ y ∈ notesOf p, 0 ≤ y.k ∧ (y.u = 0 ∨ y.k < y.u) := by
  have hr := (plotB_iff p).1 h
  intro y hy
  simp only [notesOf, List.mem_append, List.mem_map] at hy
  rcases hy with (⟨x, hx, rfl⟩ | ⟨x, hx, rfl⟩) | ⟨x, hx, rfl⟩
  · have := codeI_ok (hr.o1 x hx) (by decide)
    simp only [loadB, Bool.and_eq_true] at this
    exact valid_ku this.1.1
  · have := codeI_ok (hr.o2 x hx) (by decide)
    simp only [loadB, Bool.and_eq_true] at this
    exact valid_ku this.1.1
  · have := codeI_ok (hr.o3 x hx) (by decide)
    simp only [spellB, Bool.and_eq_true] at this
    exact valid_ku this.1.1.1.1
theorem dates_eq (p : Pl) : datesC p = datesF p := by
  unfold datesC datesF
  by_cases h : plotB p
  · rw [if_pos h, if_pos h]
    have hk := notes_ku h
    obtain ⟨s1, m1⟩ := compact_sorted (sortI_sorted (daysL (notesOf p)))
    have : compactI (sortI (daysL (notesOf p))) = datesL [] (notesOf p) := by
      refine sorted_ext s1 (datesL_sorted _ List.Pairwise.nil) fun z => ?_
      rw [m1, mem_sortI, mem_days, mem_datesL]
      constructor
      · rintro ⟨y, h1, h2⟩
        refine .inr ⟨y, h1, ?_⟩
        have := hk y h1
        rcases h2 with e | e
        · exact .inl e
        · exact .inr (by rw [if_pos (by omega)]; exact e.2)
      · rintro (h1 | ⟨y, h1, h2⟩)
        · cases h1
        · refine ⟨y, h1, ?_⟩
          have := hk y h1
          rcases h2 with e | e
          · exact .inl e
          · split at e
            · exact .inr ⟨by omega, e⟩
            · exact .inl e
    rw [this]
  · rw [if_neg h, if_neg h]
/-- The example that every law looks at first. -/
def exP : Pl := ⟨100, 120, [⟨1, 30, 40, 50, 0, 0⟩, ⟨2, 35, 30, 40, 0, 0⟩, ⟨3, 58, 10, 60, 4, 0⟩], [⟨11, 35, 20, 35, 2, 0⟩, ⟨12, 58, 0, 5, 5, 0⟩, ⟨13, 58, 0, 0, 6, 0⟩, ⟨14, 30, 80, 90, 9, 0⟩], [⟨21, 1, 58, 60, 4, 0⟩, ⟨22, 2, 64, 70, 5, 0⟩], 2⟩
theorem sortI_self {l : List Int} (h : l.Pairwise (· ≤ ·)) : sortI l = l := by
  unfold sortI
  refine List.mergeSort_of_pairwise ?_
  exact h.imp (fun h => by simpa using h)
theorem ex_stood : stoodC exP 30 2 = (⟨50, 75⟩, 0) := by rfl
theorem ex_carted : cartedC exP 3 5 = (⟨15, 35⟩, 0) := by rfl
theorem ex_clear : clearC exP 58 4 = (2, 0) := by rfl
theorem ex_first : firstC exP 5 = (⟨58, 100000⟩, 0) := by rfl
theorem ex_shut : shutC exP 61 6 = (false, 0) := by rfl
theorem ex_open1 : openC exP 61 5 = (2, 0) := by rfl
theorem ex_open2 : openC exP 105 6 = (1, 0) := by rfl
theorem ex_open3 : openC exP 106 6 = (0, 0) := by rfl
theorem ex_clash : clashC exP 9 = ([2, 11, 14], 0) := by
  have h : fallF (scnF exP 9) = [14, 13, 12, 11, 3, 2, 1] := by
    show (sortI [1, 2, 3, 11, 12, 13, 14]).reverse = _
    rw [sortI_self (by decide)]; rfl
  unfold clashC; rw [h]; rfl
theorem ex_moved : movedC exP 11 2 = ([30, 35, 58], 0) := by
  have h : sortI ((exP.loads.filter (movedB exP (withoutF exP 11).1 2)).map Ld.hr) = [30, 35, 58] := by
    show sortI [30, 35, 58] = _
    rw [sortI_self (by decide)]
  unfold movedC; rw [h]; rfl
end Go.K
