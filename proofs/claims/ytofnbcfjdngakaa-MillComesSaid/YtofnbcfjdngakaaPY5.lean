/- What is shared by turns: who is refused once is refused always; demands that can be served are. No condition. -/
import Derived.Test.YtofnbcfjdngakaaPY4
namespace Go.K
open Go.RowKit
set_option linter.unusedVariables false
set_option linter.unusedSimpArgs false
def subB (x A : Int) : Bool := (List.range 24).all fun h => !bt x h || bt A h
theorem subB_iff {x A : Int} (hx : 0 ≤ x ∧ x < 16777216) : subB x A = true ↔ ∀ h, bt x h = true → bt A h = true := by
  unfold subB
  rw [List.all_eq_true]
  constructor
  · intro q h hb
    have h24 : h < 24 := bt_lt (H := 24) ⟨hx.1, show x < 16777216 from hx.2⟩ hb
    have := q h (List.mem_range.2 h24)
    rw [hb] at this; simpa using this
  · intro q h _
    cases e : bt x h with
    | false => rfl
    | true => rw [q h e]; rfl
def inS (l : List Cm) (A : Int) (i : Nat) : Bool := match l[i]? with
  | some c => subB c.hrs A
  | none => false
def sumS (S : Nat → Bool) (f : Nat → Int) : Nat → Int
  | 0 => 0
  | n + 1 => sumS S f n + if S n = true then f n else 0
def cnt (R : List Int) (i : Nat) : Int := (R.count (i : Int) : Nat)
theorem sumS_le {S : Nat → Bool} {f g : Nat → Int} : ∀ n, (∀ i, i < n → S i = true → f i ≤ g i) → sumS S f n ≤ sumS S g n
  | 0, _ => Int.le_refl _
  | n + 1, h => by
    have ih := sumS_le n fun i hi => h i (by omega)
    unfold sumS
    by_cases e : S n = true
    · rw [if_pos e, if_pos e]; have := h n (by omega) e; omega
    · rw [if_neg e, if_neg e]; omega
theorem sumS_lt {S : Nat → Bool} {f g : Nat → Int} : ∀ n, (∀ i, i < n → S i = true → f i ≤ g i) → ∀ t, t < n → S t = true → f t < g t → sumS S f n < sumS S g n
  | 0, _, t, ht, _, _ => by omega
  | n + 1, h, t, ht, hS, hl => by
    unfold sumS
    rcases Nat.eq_or_lt_of_le (Nat.le_of_lt_succ ht) with e | e
    · subst e
      have ih := sumS_le (S := S) (f := f) (g := g) t fun i hi => h i (by omega)
      rw [if_pos hS, if_pos hS]; omega
    · have ih := sumS_lt n (fun i hi => h i (by omega)) t e hS hl
      by_cases e : S n = true
      · rw [if_pos e, if_pos e]; have := h n (by omega) e; omega
      · rw [if_neg e, if_neg e]; omega
theorem sumS_add {S : Nat → Bool} {f g : Nat → Int} : ∀ n, sumS S (fun i => f i + g i) n = sumS S f n + sumS S g n
  | 0 => rfl
  | n + 1 => by
    unfold sumS
    rw [sumS_add n]
    by_cases e : S n = true
    · simp only [if_pos e]; omega
    · simp only [if_neg e]; omega
theorem sumS_one {S : Nat → Bool} (x : Int) : ∀ n, sumS S (fun i => if x = (i : Int) then 1 else 0) n = if (0 ≤ x ∧ x < (n : Int) ∧ S x.toNat = true) then 1 else 0
  | 0 => by rw [if_neg (by omega)]; rfl
  | n + 1 => by
    unfold sumS
    rw [sumS_one x n]
    by_cases hx : x = (n : Int)
    · subst hx
      rw [Int.toNat_natCast, if_neg (by omega), if_pos rfl]
      by_cases e : S n = true
      · rw [if_pos e, if_pos ⟨by omega, by omega, e⟩]; rfl
      · rw [if_neg e, if_neg (fun q => e q.2.2)]; rfl
    · rw [if_neg hx]
      have h0 : (if S n = true then (0 : Int) else 0) = 0 := by split <;> rfl
      rw [h0, Int.add_zero]
      by_cases e : 0 ≤ x ∧ x < (n : Int) ∧ S x.toNat = true
      · rw [if_pos e, if_pos ⟨e.1, by omega, e.2.2⟩]
      · rw [if_neg e, if_neg (fun q => e ⟨q.1, by omega, q.2.2⟩)]
theorem sumS_zero {S : Nat → Bool} : ∀ n, sumS S (fun _ => 0) n = 0
  | 0 => rfl
  | n + 1 => by unfold sumS; rw [sumS_zero n]; split <;> rfl
theorem sumS_cnt {S : Nat → Bool} {n : Nat} : ∀ R : List Int, sumS S (cnt R) n = ((R.countP fun x => decide (0 ≤ x ∧ x < (n : Int) ∧ S x.toNat = true) : Nat) : Int)
  | [] => by
    show sumS S (fun i => cnt [] i) n = _
    have : (fun i => cnt [] i) = fun _ => 0 := by funext i; rfl
    rw [this, sumS_zero]; rfl
  | x :: R => by
    have e : cnt (x :: R) = fun i => cnt R i + if x = (i : Int) then 1 else 0 := by
      funext i
      unfold cnt
      rw [List.count_cons]
      by_cases h : x = (i : Int)
      · rw [if_pos h, if_pos (by simpa using h)]; omega
      · rw [if_neg h, if_neg (by simpa using h)]; omega
    rw [e, sumS_add, sumS_one, sumS_cnt R, List.countP_cons]
    by_cases h : 0 ≤ x ∧ x < (n : Int) ∧ S x.toNat = true
    · rw [if_pos h, if_pos (by rw [decide_eq_true h])]; omega
    · rw [if_neg h, if_neg (by rw [decide_eq_false h]; decide)]; omega
theorem countP_pt {p : Int → Bool} : ∀ (a b : List Int), a.length = b.length → (∀ (h : Nat) x y, a[h]? = some x → b[h]? = some y → p x = true → p y = true) → a.countP p ≤ b.countP p
  | [], [], _, _ => Nat.le_refl _
  | [], _ :: _, h, _ => by simp at h
  | _ :: _, [], h, _ => by simp at h
  | x :: a, y :: b, h, hp => by
    have ih := countP_pt a b (by simpa using h) fun i u v hu hv => hp (i + 1) u v (by simpa using hu) (by simpa using hv)
    have h0 := hp 0 x y rfl rfl
    rw [List.countP_cons, List.countP_cons]
    by_cases e : p x = true
    · rw [if_pos e, if_pos (h0 e)]; omega
    · rw [if_neg e]; omega
theorem bt0 (h : Nat) : bt 0 h = false := by unfold bt; exact Nat.zero_testBit h
theorem inS_iff {l : List Cm} {A : Int} {i : Nat} : inS l A i = true ↔ ∃ c, l[i]? = some c ∧ subB c.hrs A = true := by
  unfold inS
  cases e : l[i]? with
  | none => simp
  | some c => simp
theorem okC_24 {l : List Cm} {H : Nat} (hH : H ≤ 24) (hC : okC l H) {c : Cm} {i : Nat} (hc : l[i]? = some c) : 0 ≤ c.hrs ∧ c.hrs < 16777216 := by
  have hp24 : ∀ n, n < 25 → (1 : Int) ≤ 2 ^ n ∧ (2 : Int) ^ n ≤ 16777216 := by decide
  have := hp24 H (by omega)
  have := hC c (List.mem_iff_getElem?.2 ⟨_, hc⟩)
  omega
/-- hours that are held by those who can come at no others: no holders give them more -/
theorem sat {l : List Cm} {H : Nat} (hH : H ≤ 24) (hC : okC l H) {R Q : List Int} {A : Int} (hQ : okH l Q) (hl : R.length = H) (hlQ : Q.length = H) (hcl : clo l 0 R A) :
    sumS (inS l A) (cnt Q) l.length ≤ sumS (inS l A) (cnt R) l.length := by
  rw [sumS_cnt, sumS_cnt]
  refine Int.ofNat_le.2 (countP_pt _ _ (by omega) fun h x y hx hy hp => ?_)
  have hp := of_decide_eq_true hp
  obtain ⟨c, hc, hs⟩ := inS_iff.1 hp.2.2
  rcases hQ h x hx with q | ⟨h0, c', hc', hb⟩
  · omega
  · rw [hc] at hc'; injection hc' with e; subst e
    have hA := (subB_iff (okC_24 hH hC hc)).1 hs h hb
    obtain ⟨x', d, a1, a2, a3, a4⟩ := hcl h hA (bt0 h)
    rw [hy] at a1; injection a1 with e; subst e
    have hlt : y.toNat < l.length := (List.getElem?_eq_some_iff.1 a3).1
    exact decide_eq_true ⟨a2, by omega, inS_iff.2 ⟨d, a3, (subB_iff (okC_24 hH hC a3)).2 a4⟩⟩
def frz (l : List Cm) (H : Nat) (R : List Int) (i : Nat) : Prop := ∃ A, inS l A i = true ∧ (∀ Q, okH l Q → Q.length = H → sumS (inS l A) (cnt Q) l.length ≤ sumS (inS l A) (cnt R) l.length) ∧
  ∀ j, j < l.length → inS l A j = true → cnt R j ≤ cnt R i + 1 ∧ (i < j → cnt R j ≤ cnt R i)
theorem inS_lt {l : List Cm} {A : Int} {i : Nat} (h : inS l A i = true) : i < l.length := by
  obtain ⟨c, hc, _⟩ := inS_iff.1 h
  exact (List.getElem?_eq_some_iff.1 hc).1
theorem frz_more {l : List Cm} {H : Nat} {R R' : List Int} {i t : Nat} (hf : frz l H R i) (ho : okH l R') (hl : R'.length = H) (ht : t < l.length) (hn : ∀ j, cnt R' j = cnt R j + if j = t then 1 else 0) : frz l H R' i := by
  obtain ⟨A, h1, h2, h3⟩ := hf
  have hnot : inS l A t ≠ true := fun q => by
    have a := h2 R' ho hl
    have b := sumS_lt (S := inS l A) (f := cnt R) (g := cnt R') l.length (fun j _ _ => by rw [hn j]; split <;> omega) t ht q (by rw [hn t, if_pos rfl]; omega)
    omega
  have same : ∀ j, inS l A j = true → cnt R' j = cnt R j := fun j hj => by
    have hne : j ≠ t := fun q => hnot (q ▸ hj)
    rw [hn j, if_neg hne, Int.add_zero]
  refine ⟨A, h1, fun Q hQ hlQ => ?_, fun j hj hS => ?_⟩
  · have a := h2 Q hQ hlQ
    have b := sumS_le (S := inS l A) (f := cnt R) (g := cnt R') l.length (fun j _ hj => by rw [same j hj]; omega)
    omega
  · rw [same j hS, same i h1]; exact h3 j hj hS
end Go.K
