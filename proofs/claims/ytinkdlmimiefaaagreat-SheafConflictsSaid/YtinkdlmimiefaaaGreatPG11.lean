/- The numbers that Attain returns are true, and attain what they should. -/
import Derived.Test.YtinkdlmimiefaaaGreatPM39
import Derived.Test.YtinkdlmimiefaaaGreatPG9
namespace Go.K
set_option linter.unusedVariables false
set_option linter.unusedSimpArgs false
theorem boundS_nar {cs : List Ld} {bs : List Rg} {x : Ld} {i : Nat} {b' : Rg} (h : (boundS cs bs x)[i]? = some b') : ∃ b, bs[i]? = some b ∧ b.lo ≤ b'.lo ∧ b'.hi ≤ b.hi := by
  unfold boundS at h
  have hi := lt_of_get h
  rw [List.length_set] at hi
  by_cases e : cartF cs x.hr = i
  · subst e
    rw [List.getElem?_set_self hi] at h
    injection h with h
    subst h
    refine ⟨_, List.getElem?_eq_getElem hi, ?_⟩
    rw [List.getD_eq_getElem?_getD, List.getElem?_eq_getElem hi, Option.getD_some]
    exact ⟨meetF_le.1, meetF_le.2.1⟩
  · rw [List.getElem?_set_ne e] at h
    exact ⟨b', h, Int.le_refl _, Int.le_refl _⟩
theorem fold_nar {cs : List Ld} : ∀ (l : List Ld) (bs : List Rg) (i : Nat) (b' : Rg), (l.foldl (boundS cs) bs)[i]? = some b' → ∃ b, bs[i]? = some b ∧ b.lo ≤ b'.lo ∧ b'.hi ≤ b.hi
  | [], bs, i, b', h => ⟨b', h, Int.le_refl _, Int.le_refl _⟩
  | x :: l, bs, i, b', h => by
    obtain ⟨c, hc, c1, c2⟩ := fold_nar l (boundS cs bs x) i b' h
    obtain ⟨b, hb, b1, b2⟩ := boundS_nar hc
    exact ⟨b, hb, by omega, by omega⟩
theorem fold_stand {cs : List Ld} {x : Ld} : ∀ (l : List Ld) (bs : List Rg) (b' : Rg), x ∈ l → (l.foldl (boundS cs) bs)[cartF cs x.hr]? = some b' → x.lo ≤ b'.lo ∧ b'.hi ≤ x.hi
  | [], bs, b', hm, h => by simp at hm
  | y :: l, bs, b', hm, h => by
    rw [List.foldl_cons] at h
    rcases List.mem_cons.1 hm with rfl | hm
    · obtain ⟨c, hc, c1, c2⟩ := fold_nar l _ _ b' h
      unfold boundS at hc
      have hi := lt_of_get hc
      rw [List.length_set] at hi
      rw [List.getElem?_set_self hi] at hc
      injection hc with hc
      subst hc
      have := @meetF_le (bs.getD (cartF cs x.hr) ⟨0, 0⟩) ⟨x.lo, x.hi⟩
      have q1 : (⟨x.lo, x.hi⟩ : Rg).lo = x.lo := rfl
      have q2 : (⟨x.lo, x.hi⟩ : Rg).hi = x.hi := rfl
      omega
    · exact fold_stand l _ b' hm h
def numE : List Ld → List Int → Int → Int
  | x :: cs, a :: b :: ts, j => if x.src = j then a - b else numE cs (b :: ts) j
  | _, _, _ => 0
/-- What the law of attained ends asks. -/
structure Att (p : Pl) (h dy : Int) : Prop where
  e0 : (soundC p dy).2 = 0
  se : (soundC p dy).1 = (stoodF (scnF p dy) (crtF p dy)).2
  n1 : (soundC p dy).1 = false → (stoodC p h dy).2 = 14
  n2 : (soundC p dy).1 = false → (clearC p h dy).2 = 14
  y1 : (soundC p dy).1 = true → (stoodC p h dy).2 = 0
  y2 : (soundC p dy).1 = true → (clearC p h dy).2 = 0
  le : (soundC p dy).1 = true → (stoodC p h dy).1.lo ≤ (stoodC p h dy).1.hi
  may : (soundC p dy).1 = true → ((clearC p h dy).1 = 2 ↔ (stoodC p h dy).1.lo = 0 ∧ 0 < (stoodC p h dy).1.hi)
  yes : (soundC p dy).1 = true → ((clearC p h dy).1 = 1 ↔ (stoodC p h dy).1.hi = 0)
  no : (soundC p dy).1 = true → ((clearC p h dy).1 = 0 ↔ 0 < (stoodC p h dy).1.lo)
  low : (soundC p dy).1 = true → ∀ most : Bool, ∃ N, NumOf (crtF p dy) (endsF most (stoodF (scnF p dy) (crtF p dy)).1) N ∧ TrueAt (scnF p dy) (crtF p dy) ((endsF most (stoodF (scnF p dy) (crtF p dy)).1).getD 0 0) ((scnF p dy).loads.map fun x => N x.src) N ∧ leftF (crtF p dy) N ((endsF most (stoodF (scnF p dy) (crtF p dy)).1).getD 0 0) h = (if most then (stoodC p h dy).1.hi else (stoodC p h dy).1.lo)
end Go.K
