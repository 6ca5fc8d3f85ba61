/- G1, S1, S2, S3, G2, G3, G5, G6, G7, G4. -/
import Derived.Test.YtinkdlmimiefaaaGreatPM12
import Derived.Test.YtinkdlmimiefaaaGreatPM14
import Derived.Test.YtinkdlmimiefaaaGreatPM17
import Derived.Test.YtinkdlmimiefaaaGreatProg
import Derived.Test.YtinkdlmimiefaaaGreatPKK1
set_option linter.unusedVariables false
set_option linter.unusedSimpArgs false
section
/- What the two passes do: true numbers stay within, and neither end grows. -/
namespace Go.K
set_option linter.unusedVariables false
def Rng (r : Rg) (t : Int) : Prop := r.lo ≤ t ∧ t ≤ r.hi
theorem meetF_in {r s : Rg} {t : Int} (h : Rng r t) (h' : Rng s t) : Rng (meetF r s) t := by
  unfold Rng meetF at *
  constructor <;> simp only <;> split <;> omega
theorem meetF_le {r s : Rg} : r.lo ≤ (meetF r s).lo ∧ (meetF r s).hi ≤ r.hi ∧ s.lo ≤ (meetF r s).lo ∧ (meetF r s).hi ≤ s.hi ∧ ((meetF r s).lo = r.lo ∨ (meetF r s).lo = s.lo) := by
  unfold meetF
  refine ⟨?_, ?_, ?_, ?_, ?_⟩ <;> simp only <;> split <;> omega
/-- A step of the numbers that a step of the ranges allows. -/
def Steps (fs : List Pf) (ts : List Int) : Prop := ∀ (i : Nat) (f : Pf) (a b : Int), fs[i]? = some f → ts[i]? = some a → ts[i + 1]? = some b → ∀ r, Rng r a → Rng (pfF f r) b
def Within (bs : List Rg) (ts : List Int) : Prop := ∀ (i : Nat) (r : Rg) (t : Int), bs[i]? = some r → ts[i]? = some t → Rng r t
theorem Steps.tail {f : Pf} {fs : List Pf} {t : Int} {ts : List Int} (h : Steps (f :: fs) (t :: ts)) : Steps fs ts := fun i g a b h1 h2 h3 => h (i + 1) g a b (by simpa using h1) (by simpa using h2) (by simpa using h3)
theorem Within.tail {b : Rg} {bs : List Rg} {t : Int} {ts : List Int} (h : Within (b :: bs) (t :: ts)) : Within bs ts := fun i r u h1 h2 => h (i + 1) r u (by simpa using h1) (by simpa using h2)
theorem passL_in : ∀ {bs : List Rg} {fs : List Pf} {p : Rg} {t : Int} {ts : List Int}, Rng p t → ts.length = bs.length → bs.length ≤ fs.length → Within bs ts → Steps fs (t :: ts) → (passL p bs fs).length = bs.length ∧ Within (passL p bs fs) ts
  | [], fs, p, t, ts, _, _, _, _, _ => ⟨by simp [passL], fun i r u h => by simp [passL] at h⟩
  | b :: bs, [], p, t, ts, _, _, h, _, _ => by simp at h
  | b :: bs, f :: fs, p, t, [], _, h, _, _, _ => by simp at h
  | b :: bs, f :: fs, p, t, u :: ts, hp, hl, hf, hw, hs => by
    have h1 : Rng (meetF (pfF f p) b) u := meetF_in (hs 0 f t u rfl rfl rfl p hp) (hw 0 b u rfl rfl)
    have ih := passL_in (bs := bs) (fs := fs) h1 (by simpa using hl) (by simpa using hf) hw.tail hs.tail
    simp only [passL]
    refine ⟨by simp [ih.1], fun i r v h2 h3 => ?_⟩
    cases i with
    | zero =>
      simp only [List.getElem?_cons_zero, Option.some.injEq] at h2 h3
      subst h2; subst h3; exact h1
    | succ i => exact ih.2 i r v (by simpa using h2) (by simpa using h3)
theorem passF_in {bs : List Rg} {fs : List Pf} {ts : List Int} (hl : ts.length = bs.length) (hf : bs.length ≤ fs.length + 1) (hw : Within bs ts) (hs : Steps fs ts) : passF bs fs = (passAll bs fs, true) ∧ (passAll bs fs).length = bs.length ∧ Within (passAll bs fs) ts := by
  have key : (passAll bs fs).length = bs.length ∧ Within (passAll bs fs) ts := by
    cases bs with
    | nil => exact ⟨rfl, fun i r u h => by simp [passAll] at h⟩
    | cons b bs =>
      cases ts with
      | nil => simp at hl
      | cons t ts =>
        have h0 := hw 0 b t rfl rfl
        have := passL_in (bs := bs) (fs := fs) h0 (by simpa using hl) (by simpa using hf) hw.tail hs
        simp only [passAll]
        refine ⟨by simp [this.1], fun i r v h2 h3 => ?_⟩
        cases i with
        | zero =>
          simp only [List.getElem?_cons_zero, Option.some.injEq] at h2 h3
          subst h2; subst h3; exact h0
        | succ i => exact this.2 i r v (by simpa using h2) (by simpa using h3)
  refine ⟨?_, key⟩
  unfold passF
  rw [if_pos]
  rw [List.all_eq_true]
  intro r hr
  obtain ⟨i, hi, he⟩ := List.getElem_of_mem hr
  have h1 : (passAll bs fs)[i]? = some r := by rw [List.getElem?_eq_getElem hi, he]
  have h2 : i < ts.length := by rw [hl, ← key.1]; exact hi
  have := key.2 i r ts[i] h1 (List.getElem?_eq_getElem h2)
  unfold Rng at this
  simp only [decide_eq_true_eq]; omega
/-- Numbers that are true: within the bounds, and each load takes what it may. -/
structure True_ (p : Pl) (cs : List Ld) (ts : List Int) : Prop where
  len : ts.length = cs.length + 1
  bnd : Within (boundsF p cs) ts
  took : ∀ (i : Nat) (x : Ld) (a b : Int), cs[i]? = some x → ts[i]? = some a → ts[i + 1]? = some b → x.lo ≤ a - b ∧ a - b ≤ x.hi
theorem bounds_len (p : Pl) (cs : List Ld) : (boundsF p cs).length = cs.length + 1 := by
  unfold boundsF; rw [boundsL_len]; simp
theorem stoodF_in {p : Pl} {cs : List Ld} {ts : List Int} (h : True_ p cs ts) : (stoodF p cs).2 = true ∧ (stoodF p cs).1.length = cs.length + 1 ∧ Within (stoodF p cs).1 ts := by
  have hb := bounds_len p cs
  have b1 := passF_in (bs := (boundsF p cs).reverse) (fs := (cs.map (Pf.mk true)).reverse) (ts := ts.reverse) (by simp [hb, h.len]) (by simp [hb]) (fun i r t h1 h2 => by
    have hi := lt_of_get h1
    have hj := lt_of_get h2
    rw [List.length_reverse] at hi hj
    rw [List.getElem?_reverse hi] at h1
    rw [List.getElem?_reverse hj] at h2
    rw [show ts.length - 1 - i = (boundsF p cs).length - 1 - i by rw [hb, h.len]] at h2
    exact h.bnd _ r t h1 h2) (fun i f a b h1 h2 h3 r hr => by
    have hi := lt_of_get h1
    have hj := lt_of_get h3
    simp only [List.length_reverse, List.length_map] at hi hj
    have hl := h.len
    rw [List.getElem?_reverse (by simpa using hi), List.getElem?_map] at h1
    rw [List.getElem?_reverse (by omega)] at h2 h3
    simp only [List.length_map, Option.map_eq_some_iff] at h1
    obtain ⟨x, hx, rfl⟩ := h1
    have := h.took (cs.length - 1 - i) x b a hx (by rw [← h3]; congr 1; omega) (by rw [← h2]; congr 1; omega)
    unfold Rng pfF at *
    simp only [cond_true]
    omega)
  have b2 := passF_in (bs := (passAll (boundsF p cs).reverse (cs.map (Pf.mk true)).reverse).reverse) (fs := cs.map (Pf.mk false)) (ts := ts) (by simp [b1.2.1, hb, h.len]) (by simp [b1.2.1, hb]) (fun i r t h1 h2 => by
    have hi := lt_of_get h1
    have hj := lt_of_get h2
    rw [List.length_reverse] at hi
    rw [List.getElem?_reverse hi] at h1
    have hl := b1.2.1
    rw [List.length_reverse, hb] at hl
    refine b1.2.2 _ r t h1 ?_
    rw [List.getElem?_reverse (by have := h.len; omega), ← h2]
    congr 1
    have := h.len; omega) (fun i f a b h1 h2 h3 r hr => by
    rw [List.getElem?_map, Option.map_eq_some_iff] at h1
    obtain ⟨x, hx, rfl⟩ := h1
    have := h.took i x a b hx h2 h3
    unfold Rng pfF at *
    simp only [cond_false]
    omega)
  unfold stoodF
  rw [b1.1]
  simp only [if_true]
  rw [b2.1]
  refine ⟨rfl, ?_, b2.2.2⟩
  rw [b2.2.1, List.length_reverse, b1.2.1, List.length_reverse, hb]
/-- What one pass does from place to place. -/
theorem passL_at : ∀ {bs : List Rg} {fs : List Pf} {p : Rg} {i : Nat} {r : Rg}, (passL p bs fs)[i]? = some r → ∃ f b q, fs[i]? = some f ∧ bs[i]? = some b ∧ (p :: passL p bs fs)[i]? = some q ∧ r = meetF (pfF f q) b
  | [], fs, p, i, r, h => by simp [passL] at h
  | b :: bs, [], p, i, r, h => by simp [passL] at h
  | b :: bs, f :: fs, p, i, r, h => by
    simp only [passL] at h ⊢
    cases i with
    | zero =>
      simp only [List.getElem?_cons_zero, Option.some.injEq] at h
      exact ⟨f, b, p, rfl, rfl, rfl, h.symm⟩
    | succ i =>
      obtain ⟨g, c, q, h1, h2, h3, h4⟩ := passL_at (p := meetF (pfF f p) b) (bs := bs) (fs := fs) (by simpa using h)
      exact ⟨g, c, q, by simpa using h1, by simpa using h2, by simpa using h3, h4⟩
theorem passAll_at {bs : List Rg} {fs : List Pf} {i : Nat} {r : Rg} (h : (passAll bs fs)[i + 1]? = some r) : ∃ f b q, fs[i]? = some f ∧ bs[i + 1]? = some b ∧ (passAll bs fs)[i]? = some q ∧ r = meetF (pfF f q) b := by
  cases bs with
  | nil => simp [passAll] at h
  | cons b bs =>
    simp only [passAll] at h ⊢
    obtain ⟨f, c, q, h1, h2, h3, h4⟩ := passL_at (by simpa using h)
    exact ⟨f, c, q, h1, by simpa using h2, h3, h4⟩
theorem passAll_in_bs {bs : List Rg} {fs : List Pf} {i : Nat} {r : Rg} (h : (passAll bs fs)[i]? = some r) : ∃ b, bs[i]? = some b ∧ b.lo ≤ r.lo ∧ r.hi ≤ b.hi := by
  cases i with
  | zero =>
    cases bs with
    | nil => simp [passAll] at h
    | cons b bs =>
      simp only [passAll, List.getElem?_cons_zero, Option.some.injEq] at h
      exact ⟨b, rfl, by rw [h]; exact Int.le_refl _, by rw [h]; exact Int.le_refl _⟩
  | succ i =>
    obtain ⟨f, b, q, _, h2, _, rfl⟩ := passAll_at h
    exact ⟨b, h2, meetF_le.2.2.1, meetF_le.2.2.2.1⟩
/-- From one place to the next neither end grows. -/
theorem stoodF_falls {p : Pl} {cs : List Ld} (h0 : ∀ x ∈ cs, 0 ≤ x.lo ∧ 0 ≤ x.hi) (hs : (stoodF p cs).2 = true) {i : Nat} {r s : Rg} (hr : (stoodF p cs).1[i]? = some r) (hq : (stoodF p cs).1[i + 1]? = some s) : s.lo ≤ r.lo ∧ s.hi ≤ r.hi := by
  have hb := bounds_len p cs
  unfold stoodF at hs hr hq
  split at hs
  · rename_i h1
    rw [if_pos h1] at hr hq
    have e1 : (passF (boundsF p cs).reverse (cs.map (Pf.mk true)).reverse).1 = passAll (boundsF p cs).reverse (cs.map (Pf.mk true)).reverse := by
      unfold passF at h1 ⊢
      split
      · rfl
      · rename_i h2; rw [if_neg h2] at h1; cases h1
    rw [e1] at hs hr hq
    have e2 : (passF (passAll (boundsF p cs).reverse (cs.map (Pf.mk true)).reverse).reverse (cs.map (Pf.mk false))).1 = passAll (passAll (boundsF p cs).reverse (cs.map (Pf.mk true)).reverse).reverse (cs.map (Pf.mk false)) := by
      unfold passF at hs ⊢
      split
      · rfl
      · rename_i h2; rw [if_neg h2] at hs; cases hs
    rw [e2] at hr hq
    obtain ⟨f, b, q, g1, g2, g3, rfl⟩ := passAll_at hq
    rw [hr] at g3
    injection g3 with g3
    subst g3
    rw [List.getElem?_map, Option.map_eq_some_iff] at g1
    obtain ⟨x, hx, rfl⟩ := g1
    have hx0 := h0 x (mem_of_get hx)
    obtain ⟨a, ga, ga1, ga2⟩ := passAll_in_bs hr
    -- a and b stand one after the other in what the pass back gave
    have hi := lt_of_get ga
    have hj := lt_of_get g2
    rw [List.length_reverse] at hi hj
    rw [List.getElem?_reverse hi] at ga
    rw [List.getElem?_reverse hj] at g2
    have hk : (passAll (boundsF p cs).reverse (cs.map (Pf.mk true)).reverse).length - 1 - i = ((passAll (boundsF p cs).reverse (cs.map (Pf.mk true)).reverse).length - 1 - (i + 1)) + 1 := by omega
    rw [hk] at ga
    obtain ⟨f2, c, q2, k1, k2, k3, rfl⟩ := passAll_at ga
    rw [g2] at k3
    injection k3 with k3
    subst k3
    have hl := lt_of_get k1
    have hlen : (passAll (boundsF p cs).reverse (cs.map (Pf.mk true)).reverse).length ≤ cs.length + 1 := by
      have : ∀ {bs : List Rg} {fs : List Pf} {p : Rg}, (passL p bs fs).length ≤ fs.length := by
        intro bs
        induction bs with
        | nil => intro fs p; simp [passL]
        | cons b bs ih =>
          intro fs p
          cases fs with
          | nil => simp [passL]
          | cons f fs => simp only [passL, List.length_cons]; have := ih (fs := fs) (p := meetF (pfF f p) b); omega
      cases h3 : (boundsF p cs).reverse with
      | nil => simp [passAll]
      | cons b bs => simp only [passAll, List.length_cons]; have := this (bs := bs) (fs := (cs.map (Pf.mk true)).reverse) (p := b); simp only [List.length_reverse, List.length_map] at this; omega
    have hf2 : ∃ y ∈ cs, f2 = ⟨true, y⟩ := by
      have := mem_of_get k1
      rw [List.mem_reverse, List.mem_map] at this
      obtain ⟨y, hy, e⟩ := this
      exact ⟨y, hy, e.symm⟩
    obtain ⟨y, hy, rfl⟩ := hf2
    have hy0 := h0 y hy
    have m1 := @meetF_le (pfF ⟨true, y⟩ b) c
    have m2 := @meetF_le (pfF ⟨false, x⟩ r) b
    have p1 : (pfF ⟨true, y⟩ b).lo = b.lo + y.lo := rfl
    have p2 : (pfF ⟨false, x⟩ r).lo = r.lo - x.hi := rfl
    have p3 : (pfF ⟨false, x⟩ r).hi = r.hi - x.lo := rfl
    omega
  · cases hs
end Go.K
end
section

namespace Go.K
section stable
variable {α : Type} (key : α → Int)
/-- Rising by the key. -/
def Srt (l : List α) : Prop := l.Pairwise fun x y => key x ≤ key y
/-- Of each key the same elements in the same order. -/
def Sam (l m : List α) : Prop := ∀ h : Int, l.filter (fun x => decide (key x = h)) = m.filter (fun x => decide (key x = h))
variable {key}
theorem Sam.refl (l : List α) : Sam key l l := fun _ => rfl
theorem Sam.symm {l m : List α} (h : Sam key l m) : Sam key m l := fun k => (h k).symm
theorem Sam.trans {l m n : List α} (h : Sam key l m) (h' : Sam key m n) : Sam key l n := fun k => (h k).trans (h' k)
theorem Sam.app {l m l' m' : List α} (h : Sam key l m) (h' : Sam key l' m') : Sam key (l ++ l') (m ++ m') := fun k => by rw [List.filter_append, List.filter_append, h k, h' k]
theorem Sam.mem {l m : List α} (h : Sam key l m) {x : α} (hx : x ∈ l) : x ∈ m := by
  have h1 : x ∈ l.filter (fun y => decide (key y = key x)) := List.mem_filter.2 ⟨hx, by simp⟩
  rw [h] at h1
  exact (List.mem_filter.1 h1).1
theorem Sam.nil_of {m : List α} (h : Sam key [] m) : m = [] := by
  cases m with
  | nil => rfl
  | cons b m => have := h.symm.mem (x := b) (by simp); cases this
theorem Sam.swap {U V : List α} (h : ∀ x ∈ U, ∀ y ∈ V, key x ≠ key y) : Sam key (U ++ V) (V ++ U) := fun k => by
  rw [List.filter_append, List.filter_append]
  by_cases hu : U.filter (fun x => decide (key x = k)) = []
  · rw [hu]; simp
  · have hv : V.filter (fun x => decide (key x = k)) = [] := by
      rw [List.filter_eq_nil_iff]
      intro y hy hk
      obtain ⟨x, hx⟩ := List.exists_mem_of_ne_nil _ hu
      obtain ⟨h1, h2⟩ := List.mem_filter.1 hx
      exact h x h1 y hy ((of_decide_eq_true h2).trans (of_decide_eq_true hk).symm)
    rw [hv]; simp
theorem srt_app {A B : List α} : Srt key (A ++ B) ↔ Srt key A ∧ Srt key B ∧ ∀ x ∈ A, ∀ y ∈ B, key x ≤ key y := List.pairwise_append
theorem srt_unique : ∀ {l m : List α}, Srt key l → Srt key m → Sam key l m → l = m
  | [], m, _, _, h => h.nil_of.symm
  | a :: l, [], _, _, h => h.symm.nil_of
  | a :: l, b :: m, h1, h2, h => by
    obtain ⟨a1, a2⟩ := List.pairwise_cons.1 h1
    obtain ⟨b1, b2⟩ := List.pairwise_cons.1 h2
    have hk : key a = key b := by
      have e1 : key b ≤ key a := by
        rcases List.mem_cons.1 (h.mem (x := a) (by simp)) with e | e
        · rw [e]; exact Int.le_refl _
        · exact b1 a e
      have e2 : key a ≤ key b := by
        rcases List.mem_cons.1 (h.symm.mem (x := b) (by simp)) with e | e
        · rw [e]; exact Int.le_refl _
        · exact a1 b e
      omega
    have h0 := h (key a)
    rw [List.filter_cons_of_pos (by simp), List.filter_cons_of_pos (by simp [hk])] at h0
    injection h0 with e1 e2
    subst e1
    rw [srt_unique a2 b2 fun k => ?_]
    by_cases e : key a = k
    · subst e; exact e2
    · have := h k
      rwa [List.filter_cons_of_neg (by simp [e]), List.filter_cons_of_neg (by simp [e])] at this
end stable
end Go.K
end
section

namespace Go.K
section swaps
variable {α : Type}
/-- Two stretches exchanged, element by element: the first k of them. -/
def swapS (l : List α) (a b : Nat) : Nat → List α
  | 0 => l
  | k + 1 => match (swapS l a b k)[a + k]?, (swapS l a b k)[b + k]? with
    | some x, some y => ((swapS l a b k).set (a + k) y).set (b + k) x
    | _, _ => swapS l a b k
/-- Two stretches that lie side by side, turned round: [a, m) and [m, b). -/
def rotL (l : List α) (a m b : Nat) : List α := l.take a ++ (l.drop m).take (b - m) ++ (l.drop a).take (m - a) ++ l.drop b
end swaps
end Go.K
end
section
/- What the stable sort of the loads is: of each hour the same loads in the same order; a merge by turning two stretches round. No condition. By an AI agent; no person has read it. -/
open Go Go.Proofs Go.RowKit
namespace Go.K
theorem dw_head {α : Type} {p : α → Bool} : ∀ {l : List α} {d : α} {D : List α}, l.dropWhile p = d :: D → p d = false
  | [], d, D, h => by cases h
  | a :: l, d, D, h => by
    rw [List.dropWhile_cons] at h
    split at h
    · exact dw_head h
    · rename_i hp
      injection h with h1 _
      rw [← h1]; simpa using hp
theorem tw_all {α : Type} {p : α → Bool} : ∀ {l : List α} {d : α}, d ∈ l.takeWhile p → p d = true
  | [], d, h => by cases h
  | a :: l, d, h => by
    rw [List.takeWhile_cons] at h
    split at h
    · rename_i hp
      rcases List.mem_cons.1 h with e | e
      · rw [e]; exact hp
      · exact tw_all e
    · cases h
theorem insR_parts (x : Ld) {acc : List Ld} (h : Srt Ld.hr acc) : ∃ U V : List Ld, acc = U ++ V ∧ insR x acc = U ++ [x] ++ V ∧ (∀ y ∈ V, x.hr < y.hr) ∧ ∀ y ∈ U, y.hr ≤ x.hr := by
  have he : acc = (acc.reverse.dropWhile fun y => decide (x.hr < y.hr)).reverse ++ (acc.reverse.takeWhile fun y => decide (x.hr < y.hr)).reverse := by
    rw [← List.reverse_append, List.takeWhile_append_dropWhile, List.reverse_reverse]
  refine ⟨_, _, he, rfl, fun y hy => ?_, fun y hy => ?_⟩
  · have h1 := tw_all (p := fun y : Ld => decide (x.hr < y.hr)) (List.mem_reverse.1 hy)
    simpa using h1
  · cases hD : acc.reverse.dropWhile fun y => decide (x.hr < y.hr) with
    | nil => rw [hD] at hy; cases hy
    | cons d D =>
      have hd : ¬ x.hr < d.hr := by have h1 := dw_head (p := fun y : Ld => decide (x.hr < y.hr)) hD; simpa using h1
      rw [hD] at he hy
      rw [he] at h
      have h1 := (srt_app.1 h).1
      rw [List.reverse_cons] at h1 hy
      rcases List.mem_append.1 hy with e | e
      · have := (srt_app.1 h1).2.2 y e d (by simp); omega
      · rw [List.mem_singleton.1 e]; omega
theorem sortL_ok : ∀ (l acc : List Ld), Srt Ld.hr acc → Srt Ld.hr (l.foldl (fun acc x => insR x acc) acc) ∧ Sam Ld.hr (l.foldl (fun acc x => insR x acc) acc) (acc ++ l)
  | [], acc, h => ⟨h, by rw [List.append_nil]; exact Sam.refl acc⟩
  | x :: l, acc, h => by
    obtain ⟨U, V, e1, e2, hV, hU⟩ := insR_parts x h
    rw [e1] at h
    obtain ⟨h1, h2, h3⟩ := srt_app.1 h
    have hs : Srt Ld.hr (insR x acc) := by
      rw [e2, List.append_assoc]
      refine srt_app.2 ⟨h1, List.pairwise_cons.2 ⟨fun y hy => Int.le_of_lt (hV y hy), h2⟩, fun u hu y hy => ?_⟩
      rcases List.mem_cons.1 hy with e | e
      · rw [e]; exact hU u hu
      · exact h3 u hu y e
    obtain ⟨r1, r2⟩ := sortL_ok l (insR x acc) hs
    refine ⟨r1, r2.trans ?_⟩
    have hx : Sam Ld.hr (insR x acc) (acc ++ [x]) := by
      rw [e2, e1, List.append_assoc, List.append_assoc]
      exact (Sam.refl U).app (Sam.swap fun a ha y hy => by
        rw [List.mem_singleton.1 ha]; have := hV y hy; omega)
    have := hx.app (Sam.refl l)
    simpa using this
theorem sortF_srt (l : List Ld) : Srt Ld.hr (sortF l) := (sortL_ok l [] List.Pairwise.nil).1
theorem sortF_sam (l : List Ld) : Sam Ld.hr (sortF l) l := (sortL_ok l [] List.Pairwise.nil).2
theorem sortF_of {R l : List Ld} (h : Srt Ld.hr R) (hs : Sam Ld.hr R l) : sortF l = R := srt_unique (sortF_srt l) h ((sortF_sam l).trans hs.symm)
theorem sortF_id {l : List Ld} (h : Srt Ld.hr l) : sortF l = l := sortF_of h (Sam.refl l)
/-- A stretch put in order. -/
def segF (l : List Ld) (a b : Nat) : List Ld := l.take a ++ sortF ((l.drop a).take (b - a)) ++ l.drop b
end Go.K
end
section
/- From an hour to a later one: Stood, Clear and First. -/
namespace Go.K
set_option linter.unusedVariables false
theorem cart_mono {h h' : Int} (hh : h ≤ h') : ∀ cs : List Ld, cartF cs h ≤ cartF cs h'
  | [] => Nat.le_refl _
  | x :: cs => by
    have ih := cart_mono hh cs
    unfold cartF at ih ⊢
    simp only [List.takeWhile_cons]
    by_cases h1 : x.hr ≤ h
    · rw [if_pos (by simpa using h1), if_pos (by simpa using Int.le_trans h1 hh)]; simp only [List.length_cons]; omega
    · rw [if_neg (by simpa using h1)]; simp
theorem cart_len (h : Int) (cs : List Ld) : cartF cs h ≤ cs.length := by
  unfold cartF; exact (List.takeWhile_prefix _).length_le
theorem cart_below {h : Int} : ∀ {cs : List Ld} {q : Nat} {y : Ld}, q < cartF cs h → cs[q]? = some y → y.hr ≤ h
  | [], q, y, hq, _ => by simp [cartF] at hq
  | x :: cs, q, y, hq, hy => by
    unfold cartF at hq
    rw [List.takeWhile_cons] at hq
    split at hq
    · rename_i h1
      cases q with
      | zero => simp only [List.getElem?_cons_zero, Option.some.injEq] at hy; subst hy; simpa using h1
      | succ q => exact cart_below (cs := cs) (q := q) (by unfold cartF; simpa using hq) (by simpa using hy)
    · simp at hq
theorem cart_next {h : Int} : ∀ {cs : List Ld} {y : Ld}, cs[cartF cs h]? = some y → h < y.hr
  | [], y, hy => by simp at hy
  | x :: cs, y, hy => by
    unfold cartF at hy
    rw [List.takeWhile_cons] at hy
    split at hy
    · exact cart_next (cs := cs) (by unfold cartF; simpa using hy)
    · rename_i h1
      simp only [List.length_nil, List.getElem?_cons_zero, Option.some.injEq] at hy
      subst hy; simpa using h1
/-- The count is k if the first k are not later, and the one after is. -/
theorem cart_is {h : Int} {cs : List Ld} {k : Nat} (hk : k ≤ cs.length) (h1 : ∀ q y, q < k → cs[q]? = some y → y.hr ≤ h) (h2 : ∀ y, cs[k]? = some y → h < y.hr) : cartF cs h = k := by
  rcases Nat.lt_trichotomy (cartF cs h) k with hlt | he | hgt
  · have hl : cartF cs h < cs.length := by omega
    have := h1 _ _ hlt (List.getElem?_eq_getElem hl)
    have := cart_next (List.getElem?_eq_getElem hl)
    omega
  · exact he
  · have hl : k < cs.length := Nat.lt_of_lt_of_le hgt (cart_len h cs)
    have := cart_below hgt (List.getElem?_eq_getElem hl)
    have := h2 _ (List.getElem?_eq_getElem hl)
    omega
theorem srt_at {cs : List Ld} (hs : Srt Ld.hr cs) {i j : Nat} {x y : Ld} (hij : i ≤ j) (hx : cs[i]? = some x) (hy : cs[j]? = some y) : x.hr ≤ y.hr := by
  rcases Nat.lt_or_ge i j with h | h
  · have hi := lt_of_get hx
    have hj := lt_of_get hy
    have := List.pairwise_iff_getElem.1 hs i j hi hj h
    rw [List.getElem?_eq_getElem hi] at hx
    rw [List.getElem?_eq_getElem hj] at hy
    injection hx with hx; injection hy with hy
    rw [← hx, ← hy]; exact this
  · have : i = j := by omega
    subst this
    rw [hx] at hy; injection hy with hy; rw [hy]; exact Int.le_refl _
/-- Among 0 and the hours of the loads there is one that is not later, with the same count. -/
theorem cart_hour {cs : List Ld} (hs : Srt Ld.hr cs) {h : Int} (h0 : 0 ≤ h) (hp : ∀ x ∈ cs, 0 ≤ x.hr) : ∃ g ∈ 0 :: cs.map Ld.hr, g ≤ h ∧ cartF cs g = cartF cs h := by
  cases hk : cartF cs h with
  | zero =>
    refine ⟨0, List.mem_cons_self, h0, ?_⟩
    have := cart_mono h0 cs
    omega
  | succ k =>
    have hl := cart_len h cs
    have hx : cs[k]? = some cs[k] := List.getElem?_eq_getElem (by omega)
    refine ⟨cs[k].hr, List.mem_cons_of_mem _ (List.mem_map.2 ⟨_, mem_of_get hx, rfl⟩), cart_below (by omega) hx, cart_is (by omega) (fun q y hq hy => srt_at hs (by omega) hy hx) fun y hy => ?_⟩
    have h1 := cart_below (h := h) (by omega) hx
    have h2 := cart_next (h := h) (cs := cs) (by rw [hk]; exact hy)
    omega
/-- Where a property of the count lasts once it holds, it holds from the first hour of the list on at which it holds. -/
theorem find_from {cs : List Ld} (hs : Srt Ld.hr cs) (hp : ∀ x ∈ cs, 0 ≤ x.hr) {P : Int → Bool} (hc : ∀ a b, cartF cs a = cartF cs b → P a = P b) (hm : ∀ a b, 0 ≤ a → a ≤ b → P a = true → P b = true) {h : Int} (h0 : 0 ≤ h) (h1 : h ≤ 99999) :
    P h = true ↔ ((0 :: cs.map Ld.hr).find? P).getD 100000 ≤ h := by
  have hsl : (0 :: cs.map Ld.hr).Pairwise (fun a b => a ≤ b) := by
    rw [List.pairwise_cons]
    refine ⟨fun y hy => ?_, by rw [List.pairwise_map]; exact hs⟩
    obtain ⟨x, hx, rfl⟩ := List.mem_map.1 hy
    exact hp x hx
  constructor
  · intro h2
    obtain ⟨g, hg, hg1, hg2⟩ := cart_hour hs h0 hp
    have hPg : P g = true := by rw [hc g h hg2]; exact h2
    cases hf : (0 :: cs.map Ld.hr).find? P with
    | none => exact absurd hPg (by have := List.find?_eq_none.1 hf g hg; simpa using this)
    | some f =>
      rw [Option.getD_some]
      obtain ⟨_, l1, l2, he, ha⟩ := List.find?_eq_some_iff_append.1 hf
      rw [he] at hg hsl
      rcases List.mem_append.1 hg with h3 | h3
      · have := ha g h3; rw [hPg] at this; cases this
      · rcases List.mem_cons.1 h3 with rfl | h3
        · exact hg1
        · have := (List.pairwise_cons.1 (List.pairwise_append.1 hsl).2.1).1 g h3
          exact Int.le_trans this hg1
  · intro h2
    cases hf : (0 :: cs.map Ld.hr).find? P with
    | none => rw [hf] at h2; simp only [Option.getD_none] at h2; omega
    | some f =>
      rw [hf, Option.getD_some] at h2
      have hf0 : 0 ≤ f := by
        have := List.mem_of_find?_eq_some hf
        rcases List.mem_cons.1 this with rfl | h3
        · exact Int.le_refl _
        · obtain ⟨x, hx, rfl⟩ := List.mem_map.1 h3; exact hp x hx
      exact hm f h hf0 h2 (List.find?_some hf)
theorem st_mono {st : List Rg} (hst : ∀ (i : Nat) (r s : Rg), st[i]? = some r → st[i + 1]? = some s → s.lo ≤ r.lo ∧ s.hi ≤ r.hi) : ∀ (d : Nat) {i : Nat} {r s : Rg}, st[i]? = some r → st[i + d]? = some s → s.lo ≤ r.lo ∧ s.hi ≤ r.hi
  | 0, i, r, s, h1, h2 => by rw [Nat.add_zero, h1] at h2; injection h2 with h2; subst h2; exact ⟨Int.le_refl _, Int.le_refl _⟩
  | d + 1, i, r, s, h1, h2 => by
    have hl := lt_of_get h2
    have h3 : st[i + d]? = some (st[i + d]'(by omega)) := List.getElem?_eq_getElem (by omega)
    have a := st_mono hst d h1 h3
    have b := hst (i + d) _ s h3 (by rw [Nat.add_assoc]; exact h2)
    omega
theorem set_all {α : Type} {Q : α → Prop} {l : List α} {i : Nat} {x : α} (h : ∀ r ∈ l, Q r) (hx : Q x) : ∀ r ∈ l.set i x, Q r := fun r hr => by
  rcases List.mem_or_eq_of_mem_set hr with h1 | h1
  · exact h r h1
  · rw [h1]; exact hx
theorem bounds_pos {p : Pl} {cs : List Ld} (h : 0 ≤ p.lo) : ∀ r ∈ boundsF p cs, 0 ≤ r.lo := by
  unfold boundsF
  have key : ∀ (l : List Ld) (bs : List Rg), (∀ r ∈ bs, 0 ≤ r.lo) → ∀ r ∈ l.foldl (boundS cs) bs, 0 ≤ r.lo := by
    intro l
    induction l with
    | nil => intro bs hb; exact hb
    | cons x l ih =>
      intro bs hb
      rw [List.foldl_cons]
      refine ih _ ?_
      unfold boundS
      refine set_all hb ?_
      refine Int.le_trans ?_ (meetF_le).1
      rw [List.getD_eq_getElem?_getD]
      cases hq : bs[cartF cs x.hr]? with
      | none => exact Int.le_refl _
      | some r => exact hb r (mem_of_get hq)
  refine key _ _ fun r hr => ?_
  rcases List.mem_cons.1 hr with rfl | hr
  · exact h
  · rw [List.mem_replicate] at hr; rw [hr.2]; decide
theorem stoodF_pos {p : Pl} {cs : List Ld} (h : 0 ≤ p.lo) (hs : (stoodF p cs).2 = true) {i : Nat} {r : Rg} (hr : (stoodF p cs).1[i]? = some r) : 0 ≤ r.lo ∧ r.lo ≤ r.hi := by
  unfold stoodF at hs hr
  split at hs
  · rename_i h1
    rw [if_pos h1] at hr
    have e1 : (passF (boundsF p cs).reverse (cs.map (Pf.mk true)).reverse).1 = passAll (boundsF p cs).reverse (cs.map (Pf.mk true)).reverse := by
      unfold passF at h1 ⊢
      split
      · rfl
      · rename_i h2; rw [if_neg h2] at h1; cases h1
    rw [e1] at hs hr
    unfold passF at hs hr
    split at hs
    · rename_i h2
      rw [if_pos h2] at hr
      rw [List.all_eq_true] at h2
      obtain ⟨a, ha, ha1, _⟩ := passAll_in_bs hr
      have hi := lt_of_get ha
      rw [List.length_reverse] at hi
      rw [List.getElem?_reverse hi] at ha
      obtain ⟨b, hb, hb1, _⟩ := passAll_in_bs ha
      have := bounds_pos (cs := cs) h b (by have := mem_of_get hb; rwa [List.mem_reverse] at this)
      have h3 := h2 r (mem_of_get hr)
      simp only [decide_eq_true_eq] at h3
      omega
    · cases hs
  · cases hs
end Go.K
end
section
/- P1.5 on plots: from an hour to a later one. -/
namespace Go.K
set_option linter.unusedVariables false
/-- What the law asks, of the functions as the contracts give them. -/
structure Grows (p : Pl) (dy h h' : Int) : Prop where
  e1 : (stoodC p h dy).2 = 0
  e2 : (stoodC p h' dy).2 = 0
  e3 : (clearC p h dy).2 = 0
  e4 : (clearC p h' dy).2 = 0
  e5 : (firstC p dy).2 = 0
  lo : (stoodC p h' dy).1.lo ≤ (stoodC p h dy).1.lo
  hi : (stoodC p h' dy).1.hi ≤ (stoodC p h dy).1.hi
  yes : (clearC p h dy).1 = 1 → (clearC p h' dy).1 = 1
  sure : (clearC p h dy).1 = 1 ↔ (firstC p dy).1.hi ≤ h
  none : (clearC p h dy).1 = 0 ↔ h < (firstC p dy).1.lo
theorem ans1 (r : Rg) : answerI (decide (r.lo = 0)) (decide (r.hi = 0)) = 1 ↔ r.hi = 0 := by
  by_cases ha : r.hi = 0 <;> by_cases hb : r.lo = 0 <;> simp [answerI, ha, hb]
theorem ans0 {r : Rg} (h : 0 ≤ r.lo ∧ r.lo ≤ r.hi) : answerI (decide (r.lo = 0)) (decide (r.hi = 0)) = 0 ↔ ¬ r.lo = 0 := by
  by_cases ha : r.hi = 0
  · have hb : r.lo = 0 := by omega
    simp [answerI, ha, hb]
  · by_cases hb : r.lo = 0 <;> simp [answerI, ha, hb]
theorem grows {p : Pl} {dy h h' : Int} (hv : plotB p = true) (hd : isDayB dy = true) (hh : isHourB h = true) (hh' : isHourB h' = true) (hle : h ≤ h') (hs : (stoodF (scnF p dy) (crtF p dy)).2 = true) : Grows p dy h h' := by
  have hr := (plotB_iff p).1 hv
  have hp : 0 ≤ (scnF p dy).lo := by
    have := hr.sown
    simp only [areSheavesB, Bool.and_eq_true, decide_eq_true_eq] at this
    show 0 ≤ p.lo
    omega
  have hx : ∀ x ∈ crtF p dy, Fd x ∧ 0 ≤ x.hr ∧ x.hr ≤ 99999 := fun x hx => okL_sh (by decide) (hr.o1 x (List.mem_filter.1 (sortF_mem.1 hx)).1)
  have hsrt : Srt Ld.hr (crtF p dy) := sortF_srt _
  have hlen := stoodF_len hs
  have hH : hourI p h dy = 0 := by simp [hourI, hv, hh, hd]
  have hH' : hourI p h' dy = 0 := by simp [hourI, hv, hh', hd]
  have hD : dayI p dy = 0 := by simp [dayI, hv, hd]
  simp only [isHourB, Bool.and_eq_true, decide_eq_true_eq] at hh hh'
  have hS : ∀ g, (hourI p g dy = 0) → stoodC p g dy = ((stoodF (scnF p dy) (crtF p dy)).1.getD (cartF (crtF p dy) g) ⟨0, 0⟩, 0) := fun g hg => by
    simp [stoodC, hg, stoodAtF, hs]
  have hat : ∀ g, (stoodF (scnF p dy) (crtF p dy)).1[cartF (crtF p dy) g]? = some ((stoodF (scnF p dy) (crtF p dy)).1.getD (cartF (crtF p dy) g) ⟨0, 0⟩) := fun g => by
    have := cart_len g (crtF p dy)
    rw [List.getD_eq_getElem?_getD, List.getElem?_eq_getElem (by omega), Option.getD_some]
  have hpos := fun g => stoodF_pos hp hs (hat g)
  have hst : ∀ a b, a ≤ b → ((stoodF (scnF p dy) (crtF p dy)).1.getD (cartF (crtF p dy) b) ⟨0, 0⟩).lo ≤ ((stoodF (scnF p dy) (crtF p dy)).1.getD (cartF (crtF p dy) a) ⟨0, 0⟩).lo ∧ ((stoodF (scnF p dy) (crtF p dy)).1.getD (cartF (crtF p dy) b) ⟨0, 0⟩).hi ≤ ((stoodF (scnF p dy) (crtF p dy)).1.getD (cartF (crtF p dy) a) ⟨0, 0⟩).hi := fun a b hab => by
    have hc := cart_mono hab (crtF p dy)
    refine st_mono (fun i r s h1 h2 => stoodF_falls (fun x hxx => ⟨(hx x hxx).1.a, (hx x hxx).1.c⟩) hs h1 h2) (cartF (crtF p dy) b - cartF (crtF p dy) a) (hat a) ?_
    rw [Nat.add_sub_cancel' hc]; exact hat b
  have hF : firstC p dy = (firstF (stoodF (scnF p dy) (crtF p dy)).1 (crtF p dy), 0) := by simp [firstC, hD, hs]
  have hC : ∀ g, hourI p g dy = 0 → clearC p g dy = (answerI (decide (((stoodF (scnF p dy) (crtF p dy)).1.getD (cartF (crtF p dy) g) ⟨0, 0⟩).lo = 0)) (decide (((stoodF (scnF p dy) (crtF p dy)).1.getD (cartF (crtF p dy) g) ⟨0, 0⟩).hi = 0)), 0) := fun g hg => by
    simp [clearC, hS g hg]
  have c1 : ∀ g, hourI p g dy = 0 → ((clearC p g dy).1 = 1 ↔ ((stoodF (scnF p dy) (crtF p dy)).1.getD (cartF (crtF p dy) g) ⟨0, 0⟩).hi = 0) := fun g hg => by
    rw [hC g hg]
    exact ans1 _
  have c0 : ∀ g, hourI p g dy = 0 → ((clearC p g dy).1 = 0 ↔ ¬ ((stoodF (scnF p dy) (crtF p dy)).1.getD (cartF (crtF p dy) g) ⟨0, 0⟩).lo = 0) := fun g hg => by
    rw [hC g hg]
    exact ans0 (hpos g)
  have hx0 : ∀ x ∈ crtF p dy, 0 ≤ x.hr := fun x hxx => (hx x hxx).2.1
  have f1 := find_from hsrt hx0 (P := clearB (stoodF (scnF p dy) (crtF p dy)).1 (crtF p dy) Rg.hi) (fun a b hab => by simp only [clearB, hab]) (fun a b h0 hab h1 => by
    simp only [clearB, decide_eq_true_eq] at h1 ⊢
    have := hst a b hab; have := hpos b; omega) hh.1 hh.2
  have f2 := find_from hsrt hx0 (P := clearB (stoodF (scnF p dy) (crtF p dy)).1 (crtF p dy) Rg.lo) (fun a b hab => by simp only [clearB, hab]) (fun a b h0 hab h1 => by
    simp only [clearB, decide_eq_true_eq] at h1 ⊢
    have := hst a b hab; have := hpos b; omega) hh.1 hh.2
  have hm := hst h h' hle
  have hq := hpos h'
  refine ⟨by rw [hS h hH], by rw [hS h' hH'], by rw [hC h hH], by rw [hC h' hH'], by rw [hF], ?_, ?_, ?_, ?_, ?_⟩
  · rw [hS h hH, hS h' hH']; exact hm.1
  · rw [hS h hH, hS h' hH']; exact hm.2
  · rw [c1 h hH, c1 h' hH']; omega
  · rw [c1 h hH, hF]
    simp only [clearB, decide_eq_true_eq] at f1
    exact f1
  · rw [c0 h hH, hF]
    simp only [clearB, decide_eq_true_eq] at f2
    show _ ↔ h < (List.find? (clearB (stoodF (scnF p dy) (crtF p dy)).1 (crtF p dy) Rg.lo) (0 :: (crtF p dy).map Ld.hr)).getD 100000
    rw [f2]
    exact Int.not_le
end Go.K
end
section
/- Plots that are made from true numbers: they are valid, and sound on the day on which all is known. -/
namespace Go.K
set_option linter.unusedVariables false
structure A4 where
  a : Int
  b : Int
  c : Int
  d : Int
/-- The range that is told of a number. -/
def toldF (t c : Int) : Rg := ⟨max 0 (t - c % 12), t + c.tdiv 12 % 12⟩
theorem told_in {t c : Int} (h : 0 ≤ t) (h' : t ≤ 200) : 0 ≤ (toldF t c).lo ∧ (toldF t c).lo ≤ t ∧ t ≤ (toldF t c).hi ∧ (toldF t c).hi ≤ 10000 := by
  have h1 := Int.emod_nonneg c (show (12 : Int) ≠ 0 by decide)
  have h2 := Int.emod_nonneg (c.tdiv 12) (show (12 : Int) ≠ 0 by decide)
  have h3 := Int.emod_lt_of_pos (c.tdiv 12) (show (0 : Int) < 12 by decide)
  unfold toldF
  simp only
  omega
def mTook (l : Int) (r : A4) : Int := if r.b % 5 = 0 then l else r.b % (l + 1)
def mLoads : Int → Int → Int → List A4 → List (Ld × Int)
  | _, _, _, [] => []
  | k, h, l, r :: rs => (⟨1 + k, h + r.a % 9, (toldF (mTook l r) r.c).lo, (toldF (mTook l r) r.c).hi, r.d % 20, 0⟩, mTook l r) :: mLoads (k + 1) (h + r.a % 9) (l - mTook l r) rs
/-- What the loads made so are like. -/
def LOk : Int → Int → Int → List (Ld × Int) → Prop
  | _, _, _, [] => True
  | k, h, l, (x, t) :: r => x.src = 1 + k ∧ (h ≤ x.hr ∧ x.hr ≤ h + 8) ∧ (0 ≤ t ∧ t ≤ l) ∧ (0 ≤ x.lo ∧ x.lo ≤ t ∧ t ≤ x.hi ∧ x.hi ≤ 10000) ∧ (0 ≤ x.kn ∧ x.kn < 20 ∧ x.un = 0) ∧ LOk (k + 1) x.hr (l - t) r
theorem mLoads_ok : ∀ (rs : List A4) (k h l : Int), 0 ≤ l → l ≤ 200 → LOk k h l (mLoads k h l rs)
  | [], _, _, _, _, _ => trivial
  | r :: rs, k, h, l, h0, h1 => by
    have a1 := Int.emod_nonneg r.a (show (9 : Int) ≠ 0 by decide)
    have a2 := Int.emod_lt_of_pos r.a (show (0 : Int) < 9 by decide)
    have d1 := Int.emod_nonneg r.d (show (20 : Int) ≠ 0 by decide)
    have d2 := Int.emod_lt_of_pos r.d (show (0 : Int) < 20 by decide)
    have ht : 0 ≤ mTook l r ∧ mTook l r ≤ l := by
      unfold mTook
      split
      · omega
      · have b1 := Int.emod_nonneg r.b (show l + 1 ≠ 0 by omega)
        have b2 := Int.emod_lt_of_pos r.b (show (0 : Int) < l + 1 by omega)
        omega
    have hr := told_in (c := r.c) ht.1 (by omega)
    exact ⟨rfl, ⟨by show h ≤ h + r.a % 9; omega, by show h + r.a % 9 ≤ h + 8; omega⟩, ht, hr, ⟨d1, d2, rfl⟩, mLoads_ok rs (k + 1) (h + r.a % 9) (l - mTook l r) (by omega) (by omega)⟩
theorem LOk.hours : ∀ {xs : List (Ld × Int)} {k h l : Int}, LOk k h l xs → ∀ x ∈ xs.map Prod.fst, h ≤ x.hr ∧ x.hr ≤ h + 8 * xs.length ∧ k < x.src ∧ x.src ≤ k + xs.length ∧ Fd x ∧ 0 ≤ x.kn ∧ x.kn < 20 ∧ x.un = 0 ∧ x.lo ≤ x.hi
  | [], _, _, _, _, x, hx => by simp at hx
  | (y, t) :: xs, k, h, l, ⟨h1, h2, h3, h4, h5, h6⟩, x, hx => by
    rw [List.map_cons, List.mem_cons] at hx
    simp only [List.length_cons]
    rcases hx with rfl | hx
    · exact ⟨h2.1, by omega, by show k < x.src; omega, by omega, ⟨h4.1, by omega, by omega, h4.2.2.2⟩, h5.1, h5.2.1, h5.2.2, by omega⟩
    · have := LOk.hours h6 x hx
      refine ⟨by omega, by omega, by omega, by omega, this.2.2.2.2.1, this.2.2.2.2.2⟩
theorem LOk.srt : ∀ {xs : List (Ld × Int)} {k h l : Int}, LOk k h l xs → Srt Ld.hr (xs.map Prod.fst)
  | [], _, _, _, _ => List.Pairwise.nil
  | (y, t) :: xs, k, h, l, ⟨h1, h2, h3, h4, h5, h6⟩ => by
    refine List.pairwise_cons.2 ⟨fun x hx => (LOk.hours h6 x hx).1, LOk.srt h6⟩
theorem LOk.rise : ∀ {xs : List (Ld × Int)} {k h l : Int}, LOk k h l xs → (xs.map Prod.fst).Pairwise fun x y => x.src < y.src
  | [], _, _, _, _ => List.Pairwise.nil
  | (y, t) :: xs, k, h, l, ⟨h1, h2, h3, h4, h5, h6⟩ => by
    refine List.pairwise_cons.2 ⟨fun x hx => ?_, LOk.rise h6⟩
    have := (LOk.hours h6 x hx).2.2.1
    show y.src < x.src
    omega
/-- What was left, from the start on. -/
def lefts : Int → List Int → List Int
  | l, [] => [l]
  | l, t :: ts => l :: lefts (l - t) ts
theorem lefts_len : ∀ (ts : List Int) (l : Int), (lefts l ts).length = ts.length + 1
  | [], _ => rfl
  | t :: ts, l => by simp only [lefts, List.length_cons, lefts_len ts]
theorem lefts_0 (l : Int) (ts : List Int) : (lefts l ts)[0]? = some l := by cases ts <;> rfl
theorem LOk.took : ∀ {xs : List (Ld × Int)} {k h l : Int}, LOk k h l xs → ∀ (i : Nat) (x : Ld) (a b : Int), (xs.map Prod.fst)[i]? = some x → (lefts l (xs.map Prod.snd))[i]? = some a → (lefts l (xs.map Prod.snd))[i + 1]? = some b → x.lo ≤ a - b ∧ a - b ≤ x.hi
  | [], _, _, _, _, i, x, a, b, hx, _, _ => by simp at hx
  | (y, t) :: xs, k, h, l, ⟨h1, h2, h3, h4, h5, h6⟩, i, x, a, b, hx, ha, hb => by
    simp only [List.map_cons, lefts] at hx ha hb
    cases i with
    | zero =>
      simp only [List.getElem?_cons_zero, Option.some.injEq] at hx ha
      rw [List.getElem?_cons_succ, lefts_0] at hb
      injection hb with hb
      subst hx; subst ha; subst hb
      omega
    | succ i => exact LOk.took h6 i x a b (by simpa using hx) (by simpa using ha) (by simpa using hb)
theorem LOk.nonneg : ∀ {xs : List (Ld × Int)} {k h l : Int}, LOk k h l xs → 0 ≤ l → ∀ t ∈ lefts l (xs.map Prod.snd), 0 ≤ t ∧ t ≤ l
  | [], _, _, _, _, h0, t, ht => by
    simp only [List.map_nil, lefts, List.mem_singleton] at ht
    omega
  | (y, u) :: xs, k, h, l, ⟨h1, h2, h3, h4, h5, h6⟩, h0, t, ht => by
    simp only [List.map_cons, lefts, List.mem_cons] at ht
    rcases ht with rfl | ht
    · exact ⟨h0, Int.le_refl _⟩
    · have := LOk.nonneg h6 (by omega) t ht
      omega
/-- What stood at an hour. -/
def thereF (xs : List (Ld × Int)) (h l : Int) : Int := xs.foldl (fun acc x => if x.1.hr ≤ h then acc - x.2 else acc) l
theorem there_none {g : Int} : ∀ {xs : List (Ld × Int)} {l : Int}, (∀ x ∈ xs.map Prod.fst, g < x.hr) → thereF xs g l = l
  | [], l, _ => rfl
  | (y, t) :: xs, l, h => by
    have h1 := h y (by simp)
    unfold thereF
    rw [List.foldl_cons, if_neg (by simp only; omega)]
    exact there_none (xs := xs) fun x hx => h x (by rw [List.map_cons]; exact List.mem_cons_of_mem _ hx)
theorem LOk.there {g : Int} : ∀ {xs : List (Ld × Int)} {k h l : Int}, LOk k h l xs → (lefts l (xs.map Prod.snd))[cartF (xs.map Prod.fst) g]? = some (thereF xs g l)
  | [], _, _, l, _ => rfl
  | (y, t) :: xs, k, h, l, hk => by
    obtain ⟨h1, h2, h3, h4, h5, h6⟩ := hk
    have ih := LOk.there (g := g) h6
    by_cases hg : y.hr ≤ g
    · have e1 : cartF (((y, t) :: xs).map Prod.fst) g = cartF (xs.map Prod.fst) g + 1 := by
        unfold cartF
        rw [List.map_cons, List.takeWhile_cons, if_pos (by simpa using hg), List.length_cons]
      have e2 : thereF ((y, t) :: xs) g l = thereF xs g (l - t) := by
        unfold thereF
        rw [List.foldl_cons, if_pos hg]
      rw [e1, e2]
      simpa [lefts] using ih
    · have e1 : cartF (((y, t) :: xs).map Prod.fst) g = 0 := by
        unfold cartF
        rw [List.map_cons, List.takeWhile_cons, if_neg (by simpa using hg), List.length_nil]
      have e2 : thereF ((y, t) :: xs) g l = l := there_none fun x hx => by
        rw [List.map_cons, List.mem_cons] at hx
        rcases hx with rfl | hx
        · omega
        · have := (LOk.hours h6 x hx).1; omega
      rw [e1, e2]
      exact lefts_0 _ _
/-- A stand that tells of what stood keeps the true numbers within the bounds. -/
theorem boundS_in {cs : List Ld} {bs : List Rg} {ts : List Int} {x : Ld} {t : Int} (hl : bs.length = cs.length + 1) (hw : Within bs ts) (ht : ts[cartF cs x.hr]? = some t) (h1 : x.lo ≤ t) (h2 : t ≤ x.hi) : Within (boundS cs bs x) ts := fun i r u hr hu => by
  unfold boundS at hr
  have hc := cart_len x.hr cs
  by_cases e : i = cartF cs x.hr
  · subst e
    rw [List.getElem?_set_self (by omega)] at hr
    injection hr with hr
    rw [ht] at hu
    injection hu with hu
    subst hr; subst hu
    refine meetF_in ?_ ⟨h1, h2⟩
    rw [List.getD_eq_getElem?_getD, List.getElem?_eq_getElem (by omega), Option.getD_some]
    exact hw _ _ _ (List.getElem?_eq_getElem (by omega)) ht
  · rw [List.getElem?_set_ne (fun h => e h.symm)] at hr
    exact hw i r u hr hu
theorem bounds_in {p : Pl} {cs : List Ld} {ts : List Int} (h0 : ∀ t, ts[0]? = some t → p.lo ≤ t ∧ t ≤ p.hi) (hpos : ∀ t ∈ ts, 0 ≤ t ∧ t ≤ 10000) (hs : ∀ x ∈ p.stands, ∃ t, ts[cartF cs x.hr]? = some t ∧ x.lo ≤ t ∧ t ≤ x.hi) : Within (boundsF p cs) ts := by
  have key : ∀ (l : List Ld) (bs : List Rg), bs.length = cs.length + 1 → (∀ x ∈ l, ∃ t, ts[cartF cs x.hr]? = some t ∧ x.lo ≤ t ∧ t ≤ x.hi) → Within bs ts → Within (l.foldl (boundS cs) bs) ts := by
    intro l
    induction l with
    | nil => intro bs _ _ hb; exact hb
    | cons x l ih =>
      intro bs hl hx hb
      rw [List.foldl_cons]
      obtain ⟨t, t1, t2, t3⟩ := hx x List.mem_cons_self
      exact ih _ (by simp [boundS, hl]) (fun y hy => hx y (List.mem_cons_of_mem _ hy)) (boundS_in hl hb t1 t2 t3)
  refine key p.stands _ (by simp) hs fun i r t hr ht => ?_
  cases i with
  | zero =>
    simp only [List.getElem?_cons_zero, Option.some.injEq] at hr
    subst hr
    exact h0 t ht
  | succ i =>
    rw [List.getElem?_cons_succ] at hr
    have := mem_of_get hr
    rw [List.mem_replicate] at this
    rw [this.2]
    exact hpos t (mem_of_get ht)
end Go.K
end
section
/- The made plot is valid, and sound on day 20. -/
namespace Go.K
set_option linter.unusedVariables false
def mStands (xs : List (Ld × Int)) (l : Int) : Int → List A4 → List Ld
  | _, [] => []
  | j, r :: rs => ⟨21 + j, 18 + r.a % 50, (toldF (thereF xs (18 + r.a % 50) l) r.c).lo, (toldF (thereF xs (18 + r.a % 50) l) r.c).hi, r.d % 20, 0⟩ :: mStands xs l (j + 1) rs
def mSpells : Int → List A4 → List Sp
  | _, [] => []
  | j, r :: rs => ⟨41 + j, 1 + r.a % 2, 20 + r.b % 90, 20 + r.b % 90 + r.c % 12, r.d % 20, 0⟩ :: mSpells (j + 1) rs
def madeF (x0 x1 : Int) (ls ss ps : List A4) : Pl :=
  ⟨max 0 (x0 % 200 - x0.tdiv 200 % 9), x0 % 200 + x0.tdiv 1800 % 9, (mLoads 0 20 (x0 % 200) (ls.take 6)).map Prod.fst, mStands (mLoads 0 20 (x0 % 200) (ls.take 6)) (x0 % 200) 0 (ss.take 6), mSpells 0 (ps.take 4), x1 % 4⟩
theorem mLoads_len : ∀ (rs : List A4) (k h l : Int), (mLoads k h l rs).length = rs.length
  | [], _, _, _ => rfl
  | r :: rs, k, h, l => by simp only [mLoads, List.length_cons, mLoads_len rs]
theorem mStands_len (xs : List (Ld × Int)) (l : Int) : ∀ (rs : List A4) (j : Int), (mStands xs l j rs).length = rs.length
  | [], _ => rfl
  | r :: rs, j => by simp only [mStands, List.length_cons, mStands_len xs l rs]
theorem mSpells_len : ∀ (rs : List A4) (j : Int), (mSpells j rs).length = rs.length
  | [], _ => rfl
  | r :: rs, j => by simp only [mSpells, List.length_cons, mSpells_len rs]
theorem LOk.there_bd {xs : List (Ld × Int)} {k h l : Int} (hx : LOk k h l xs) (h0 : 0 ≤ l) (g : Int) : 0 ≤ thereF xs g l ∧ thereF xs g l ≤ l := hx.nonneg h0 _ (mem_of_get (hx.there (g := g)))
theorem mStands_ok {xs : List (Ld × Int)} {k h l : Int} (hx : LOk k h l xs) (h0 : 0 ≤ l) (h1 : l ≤ 200) : ∀ (rs : List A4) (j : Int), ∀ x ∈ mStands xs l j rs, (20 + j < x.src ∧ x.src ≤ 20 + j + rs.length) ∧ (18 ≤ x.hr ∧ x.hr ≤ 67) ∧ (0 ≤ x.lo ∧ x.lo ≤ thereF xs x.hr l ∧ thereF xs x.hr l ≤ x.hi ∧ x.hi ≤ 10000) ∧ 0 ≤ x.kn ∧ x.kn < 20 ∧ x.un = 0
  | [], _, x, hm => by simp [mStands] at hm
  | r :: rs, j, x, hm => by
    rw [mStands, List.mem_cons] at hm
    simp only [List.length_cons]
    rcases hm with rfl | hm
    · have a1 := Int.emod_nonneg r.a (show (50 : Int) ≠ 0 by decide)
      have a2 := Int.emod_lt_of_pos r.a (show (0 : Int) < 50 by decide)
      have d1 := Int.emod_nonneg r.d (show (20 : Int) ≠ 0 by decide)
      have d2 := Int.emod_lt_of_pos r.d (show (0 : Int) < 20 by decide)
      have hb := hx.there_bd h0 (18 + r.a % 50)
      have ht := told_in (c := r.c) hb.1 (by omega)
      refine ⟨⟨by simp only; omega, by simp only; omega⟩, ⟨by simp only; omega, by simp only; omega⟩, ht, d1, d2, rfl⟩
    · have := mStands_ok hx h0 h1 rs (j + 1) x hm
      refine ⟨by omega, this.2⟩
theorem mSpells_ok : ∀ (rs : List A4) (j : Int), ∀ x ∈ mSpells j rs, (40 + j < x.src ∧ x.src ≤ 40 + j + rs.length) ∧ (x.kd = 1 ∨ x.kd = 2) ∧ (20 ≤ x.fr ∧ x.fr ≤ x.to ∧ x.to ≤ 200) ∧ 0 ≤ x.kn ∧ x.kn < 20 ∧ x.un = 0
  | [], _, x, hm => by simp [mSpells] at hm
  | r :: rs, j, x, hm => by
    rw [mSpells, List.mem_cons] at hm
    simp only [List.length_cons]
    rcases hm with rfl | hm
    · have a1 := Int.emod_nonneg r.a (show (2 : Int) ≠ 0 by decide)
      have a2 := Int.emod_lt_of_pos r.a (show (0 : Int) < 2 by decide)
      have b1 := Int.emod_nonneg r.b (show (90 : Int) ≠ 0 by decide)
      have b2 := Int.emod_lt_of_pos r.b (show (0 : Int) < 90 by decide)
      have c1 := Int.emod_nonneg r.c (show (12 : Int) ≠ 0 by decide)
      have c2 := Int.emod_lt_of_pos r.c (show (0 : Int) < 12 by decide)
      have d1 := Int.emod_nonneg r.d (show (20 : Int) ≠ 0 by decide)
      have d2 := Int.emod_lt_of_pos r.d (show (0 : Int) < 20 by decide)
      refine ⟨⟨by simp only; omega, by simp only; omega⟩, by simp only; omega, ⟨by simp only; omega, by simp only; omega, by simp only; omega⟩, d1, d2, rfl⟩
    · have := mSpells_ok rs (j + 1) x hm
      refine ⟨by omega, this.2⟩
theorem mStands_rise {xs : List (Ld × Int)} {k h l : Int} (hx : LOk k h l xs) (h0 : 0 ≤ l) (h1 : l ≤ 200) : ∀ (rs : List A4) (j : Int), (mStands xs l j rs).Pairwise fun x y => x.src < y.src
  | [], _ => List.Pairwise.nil
  | r :: rs, j => by
    refine List.pairwise_cons.2 ⟨fun x hm => ?_, mStands_rise hx h0 h1 rs (j + 1)⟩
    have := (mStands_ok hx h0 h1 rs (j + 1) x hm).1
    simp only; omega
theorem mSpells_rise : ∀ (rs : List A4) (j : Int), (mSpells j rs).Pairwise fun x y => x.src < y.src
  | [], _ => List.Pairwise.nil
  | r :: rs, j => by
    refine List.pairwise_cons.2 ⟨fun x hm => ?_, mSpells_rise rs (j + 1)⟩
    have := (mSpells_ok rs (j + 1) x hm).1
    simp only; omega
theorem rise_nodup {α : Type} {f : α → Int} {l : List α} (h : l.Pairwise fun x y => f x < f y) : (l.map f).Nodup := by
  rw [List.Nodup, List.pairwise_map]
  exact h.imp fun h => by omega
section made
variable (x0 x1 : Int) (ls ss ps : List A4)
theorem made_lok : LOk 0 20 (x0 % 200) (mLoads 0 20 (x0 % 200) (ls.take 6)) := by
  have a1 := Int.emod_nonneg x0 (show (200 : Int) ≠ 0 by decide)
  have a2 := Int.emod_lt_of_pos x0 (show (0 : Int) < 200 by decide)
  exact mLoads_ok _ _ _ _ (by omega) (by omega)
theorem made_valid : plotB (madeF x0 x1 ls ss ps) = true := by
  have a1 := Int.emod_nonneg x0 (show (200 : Int) ≠ 0 by decide)
  have a2 := Int.emod_lt_of_pos x0 (show (0 : Int) < 200 by decide)
  have b1 := Int.emod_nonneg (x0.tdiv 200) (show (9 : Int) ≠ 0 by decide)
  have b2 := Int.emod_lt_of_pos (x0.tdiv 200) (show (0 : Int) < 9 by decide)
  have c1 := Int.emod_nonneg (x0.tdiv 1800) (show (9 : Int) ≠ 0 by decide)
  have c2 := Int.emod_lt_of_pos (x0.tdiv 1800) (show (0 : Int) < 9 by decide)
  have g1 := Int.emod_nonneg x1 (show (4 : Int) ≠ 0 by decide)
  have g2 := Int.emod_lt_of_pos x1 (show (0 : Int) < 4 by decide)
  have hk := made_lok x0 ls
  have hl := mLoads_len (ls.take 6) 0 20 (x0 % 200)
  have hs := mStands_len (mLoads 0 20 (x0 % 200) (ls.take 6)) (x0 % 200) (ss.take 6) 0
  have hp := mSpells_len (ps.take 4) 0
  have k1 : (ls.take 6).length ≤ 6 := by rw [List.length_take]; omega
  have k2 : (ss.take 6).length ≤ 6 := by rw [List.length_take]; omega
  have k3 : (ps.take 4).length ≤ 4 := by rw [List.length_take]; omega
  have o1 := hk.hours
  have o2 := mStands_ok hk a1 (by omega) (ss.take 6) 0
  have o3 := mSpells_ok (ps.take 4) 0
  refine (plotB_iff _).2 ⟨?_, g1, by show x1 % 4 ≤ 60; omega, by show (List.map Prod.fst _).length ≤ 60; rw [List.length_map]; omega, by show (mStands _ _ _ _).length ≤ 60; omega, by show (mSpells _ _).length ≤ 60; omega, fun x hx => ?_, adj_iff.2 hk.rise, fun x hx => ?_, adj_iff.2 (mStands_rise hk a1 (by omega) _ _), fun x hx => ?_, adj_iff.2 (mSpells_rise _ _), ?_⟩
  · show areSheavesB (max 0 (x0 % 200 - x0.tdiv 200 % 9)) (x0 % 200 + x0.tdiv 1800 % 9) = true
    simp only [areSheavesB, Bool.and_eq_true, decide_eq_true_eq]
    omega
  · have h := o1 x hx
    obtain ⟨f1, f2, f3, f4⟩ := h.2.2.2.2.1
    have e : loadB x.src x.hr x.lo x.hi x.kn x.un = true := by
      simp only [loadB, validB, isDayB, isHourB, areSheavesB, Bool.and_eq_true, Bool.or_eq_true, decide_eq_true_eq]
      omega
    rw [okL, e]; rfl
  · have h := o2 x hx
    have e : loadB x.src x.hr x.lo x.hi x.kn x.un = true := by
      simp only [loadB, validB, isDayB, isHourB, areSheavesB, Bool.and_eq_true, Bool.or_eq_true, decide_eq_true_eq]
      omega
    rw [okL, e]; rfl
  · have h := o3 x hx
    have e : spellB x.src x.kd x.fr x.to x.kn x.un = true := by
      simp only [spellB, validB, isDayB, isHourB, Bool.and_eq_true, Bool.or_eq_true, decide_eq_true_eq]
      omega
    rw [okS, e]; rfl
  · unfold srcsOf
    rw [List.nodup_append, List.nodup_append]
    refine ⟨⟨rise_nodup hk.rise, rise_nodup (mStands_rise hk a1 (by omega) _ _), ?_⟩, rise_nodup (mSpells_rise _ _), ?_⟩
    · intro a ha b hb
      obtain ⟨x, hx, rfl⟩ := List.mem_map.1 ha
      obtain ⟨y, hy, rfl⟩ := List.mem_map.1 hb
      have := o1 x hx; have := o2 y hy; omega
    · intro a ha b hb
      obtain ⟨y, hy, rfl⟩ := List.mem_map.1 hb
      have hy3 := o3 y hy
      rcases List.mem_append.1 ha with ha | ha
      · obtain ⟨x, hx, rfl⟩ := List.mem_map.1 ha
        have := o1 x hx; omega
      · obtain ⟨x, hx, rfl⟩ := List.mem_map.1 ha
        have := o2 x hx; omega
theorem counts20 {k u : Int} (h : 0 ≤ k ∧ k < 20 ∧ u = 0) : countsB k u 20 = true := by
  simp only [countsB, Bool.and_eq_true, Bool.or_eq_true, decide_eq_true_eq]; omega
theorem made_scn : scnF (madeF x0 x1 ls ss ps) 20 = madeF x0 x1 ls ss ps := by
  have a1 := Int.emod_nonneg x0 (show (200 : Int) ≠ 0 by decide)
  have a2 := Int.emod_lt_of_pos x0 (show (0 : Int) < 200 by decide)
  have hk := made_lok x0 ls
  have f1 : (madeF x0 x1 ls ss ps).loads.filter (fun x => countsB (ntL x).k (ntL x).u 20) = (madeF x0 x1 ls ss ps).loads := List.filter_eq_self.2 fun x hx => by
    have := hk.hours x hx
    exact counts20 ⟨this.2.2.2.2.2.1, this.2.2.2.2.2.2.1, this.2.2.2.2.2.2.2.1⟩
  have f2 : (madeF x0 x1 ls ss ps).stands.filter (fun x => countsB (ntL x).k (ntL x).u 20) = (madeF x0 x1 ls ss ps).stands := List.filter_eq_self.2 fun x hx => counts20 (mStands_ok hk a1 (by omega) (ss.take 6) 0 x hx).2.2.2
  have f3 : (madeF x0 x1 ls ss ps).spells.filter (fun x => countsB (ntS x).k (ntS x).u 20) = (madeF x0 x1 ls ss ps).spells := List.filter_eq_self.2 fun x hx => counts20 (mSpells_ok (ps.take 4) 0 x hx).2.2.2
  unfold scnF keepP
  rw [f1, f2, f3]
end made
end Go.K
end
section
/- The made plot, note by note: what the loops of Made carry. -/
namespace Go.K
set_option linter.unusedVariables false
def hEnd (h : Int) (rs : List A4) : Int := rs.foldl (fun h r => h + r.a % 9) h
def lEnd (l : Int) (rs : List A4) : Int := rs.foldl (fun l r => l - mTook l r) l
def mOne (k h l : Int) (r : A4) : Ld × Int := (⟨1 + k, h + r.a % 9, (toldF (mTook l r) r.c).lo, (toldF (mTook l r) r.c).hi, r.d % 20, 0⟩, mTook l r)
theorem mLoads_snoc (r : A4) : ∀ (rs : List A4) (k h l : Int), mLoads k h l (rs ++ [r]) = mLoads k h l rs ++ [mOne (k + rs.length) (hEnd h rs) (lEnd l rs) r]
  | [], k, h, l => by simp [mLoads, mOne, hEnd, lEnd]
  | s :: rs, k, h, l => by
    rw [List.cons_append, mLoads, mLoads_snoc r rs, mLoads, List.cons_append]
    have e : k + 1 + (rs.length : Int) = k + ((s :: rs).length : Nat) := by rw [List.length_cons]; omega
    rw [e]
    rfl
theorem hEnd_snoc (h : Int) (rs : List A4) (r : A4) : hEnd h (rs ++ [r]) = hEnd h rs + r.a % 9 := by simp [hEnd]
theorem lEnd_snoc (l : Int) (rs : List A4) (r : A4) : lEnd l (rs ++ [r]) = lEnd l rs - mTook (lEnd l rs) r := by simp [lEnd]
theorem mTook_bd {l : Int} (h0 : 0 ≤ l) (r : A4) : 0 ≤ mTook l r ∧ mTook l r ≤ l := by
  unfold mTook
  split
  · omega
  · have b1 := Int.emod_nonneg r.b (show l + 1 ≠ 0 by omega)
    have b2 := Int.emod_lt_of_pos r.b (show (0 : Int) < l + 1 by omega)
    omega
theorem lEnd_bd : ∀ (rs : List A4) {l : Int}, 0 ≤ l → 0 ≤ lEnd l rs ∧ lEnd l rs ≤ l
  | [], l, h0 => ⟨h0, Int.le_refl _⟩
  | r :: rs, l, h0 => by
    have h1 := mTook_bd h0 r
    have h2 := lEnd_bd rs (l := l - mTook l r) (by omega)
    have e : lEnd l (r :: rs) = lEnd (l - mTook l r) rs := rfl
    rw [e]
    omega
theorem hEnd_bd : ∀ (rs : List A4) (h : Int), h ≤ hEnd h rs ∧ hEnd h rs ≤ h + 8 * rs.length
  | [], h => ⟨Int.le_refl _, by simp [hEnd]⟩
  | r :: rs, h => by
    have a1 := Int.emod_nonneg r.a (show (9 : Int) ≠ 0 by decide)
    have a2 := Int.emod_lt_of_pos r.a (show (0 : Int) < 9 by decide)
    have h2 := hEnd_bd rs (h + r.a % 9)
    have e : hEnd h (r :: rs) = hEnd (h + r.a % 9) rs := rfl
    rw [e, List.length_cons]
    omega
def sOne (xs : List (Ld × Int)) (l j : Int) (r : A4) : Ld := ⟨21 + j, 18 + r.a % 50, (toldF (thereF xs (18 + r.a % 50) l) r.c).lo, (toldF (thereF xs (18 + r.a % 50) l) r.c).hi, r.d % 20, 0⟩
theorem mStands_snoc (xs : List (Ld × Int)) (l : Int) (r : A4) : ∀ (rs : List A4) (j : Int), mStands xs l j (rs ++ [r]) = mStands xs l j rs ++ [sOne xs l (j + rs.length) r]
  | [], j => by simp [mStands, sOne]
  | s :: rs, j => by
    rw [List.cons_append, mStands, mStands_snoc xs l r rs, mStands, List.cons_append]
    have e : j + 1 + (rs.length : Int) = j + ((s :: rs).length : Nat) := by rw [List.length_cons]; omega
    rw [e]
def pOne (j : Int) (r : A4) : Sp := ⟨41 + j, 1 + r.a % 2, 20 + r.b % 90, 20 + r.b % 90 + r.c % 12, r.d % 20, 0⟩
theorem mSpells_snoc (r : A4) : ∀ (rs : List A4) (j : Int), mSpells j (rs ++ [r]) = mSpells j rs ++ [pOne (j + rs.length) r]
  | [], j => by simp [mSpells, pOne]
  | s :: rs, j => by
    rw [List.cons_append, mSpells, mSpells_snoc r rs, mSpells, List.cons_append]
    have e : j + 1 + (rs.length : Int) = j + ((s :: rs).length : Nat) := by rw [List.length_cons]; omega
    rw [e]
theorem there_step {xs : List (Ld × Int)} {i : Nat} {x : Ld × Int} (hx : xs[i]? = some x) (g l : Int) : thereF (xs.take (i + 1)) g l = if x.1.hr ≤ g then thereF (xs.take i) g l - x.2 else thereF (xs.take i) g l := by
  unfold thereF
  rw [take_get hx, List.foldl_append]
  rfl
theorem there_all {xs : List (Ld × Int)} {i : Nat} (h : xs.length ≤ i) (g l : Int) : thereF (xs.take i) g l = thereF xs g l := by rw [List.take_of_length_le h]
end Go.K
end
section
/- The rest of a division. -/
namespace Go.K
open Go.Proofs Go.RowKit
set_option linter.unusedVariables false
set_option maxRecDepth 100000
attribute [local irreducible] Seq Step CallV AnyE opX
section steps
variable {P : Program} {ρ : Env} {w : World} {R : Value → World → Prop} {d : Option Nat} {ty : TypeId} {pos : String} {af : Array Edge} {gd : Option (Nat × Bool)}
theorem s_rem {T Ty : TypeId} {x y : Operand} {a b : Int} (ha : ev ρ x = .int .i64 a) (hb : ev ρ y = .int .i64 b) (h : 0 < b) (k : R (.int .i64 (a.tmod b)) w) :
    Step P ⟨d, .binOp .rem T x y Ty, ty, pos, af, gd⟩ ρ w R := by
  refine s_pure (.int .i64 (a.tmod b)) ?_ k
  have : execOp (ev ρ) ⟨d, .binOp .rem T x y Ty, ty, pos, af, gd⟩ = (do pure (.value (← (do eqGuard .rem T x y (ev ρ x) (ev ρ y); binOp .rem T (ev ρ x) (ev ρ y))))) := rfl
  rw [this, ha, hb]
  have e : binOp .rem T (.int .i64 a) (.int .i64 b) = Go.Op.intDiv .rem .i64 a b := rfl
  have hb0 : ¬ b = 0 := by omega
  rw [e]
  unfold Go.Op.intDiv
  rw [if_neg hb0]
  rfl
theorem s_quo {T Ty : TypeId} {x y : Operand} {a b : Int} (ha : ev ρ x = .int .i64 a) (hb : ev ρ y = .int .i64 b) (h : 0 < b) (h1 : -9223372036854775808 ≤ a ∧ a ≤ 9223372036854775807) (k : R (.int .i64 (a.tdiv b)) w) :
    Step P ⟨d, .binOp .quo T x y Ty, ty, pos, af, gd⟩ ρ w R := by
  refine s_pure (.int .i64 (a.tdiv b)) ?_ k
  have : execOp (ev ρ) ⟨d, .binOp .quo T x y Ty, ty, pos, af, gd⟩ = (do pure (.value (← (do eqGuard .quo T x y (ev ρ x) (ev ρ y); binOp .quo T (ev ρ x) (ev ρ y))))) := rfl
  rw [this, ha, hb]
  have e : binOp .quo T (.int .i64 a) (.int .i64 b) = Go.Op.intDiv .quo .i64 a b := rfl
  have hb0 : ¬ b = 0 := by omega
  have h2 : -9223372036854775808 ≤ a.tdiv b ∧ a.tdiv b ≤ 9223372036854775807 := by
    have h3 := Int.natAbs_tdiv_le_natAbs a b
    rcases Int.lt_or_le a 0 with h4 | h4
    · have h5 : 0 ≤ (-a).tdiv b := Int.tdiv_nonneg (by omega) (by omega)
      rw [Int.neg_tdiv] at h5
      omega
    · have h5 : 0 ≤ a.tdiv b := Int.tdiv_nonneg h4 (by omega)
      omega
  rw [e]
  unfold Go.Op.intDiv
  rw [if_neg hb0]
  conv => rhs; rw [← wrap_in h2.1 h2.2]
  rfl
end steps
theorem mod_eq {x m : Int} (h : 0 < m) : (x.tmod m + m).tmod m = x % m := by
  have h1 := Int.lt_tmod_of_pos x h
  rw [Int.tmod_eq_emod_of_nonneg (by omega), Int.add_emod_right]
  rw [Int.tmod_def, Int.sub_emod, Int.mul_emod_right, Int.sub_zero, Int.emod_emod]
theorem Mod_c (w0 : World) (x m : Int) (h : 0 < m ∧ m ≤ 1000000000) : Does Tryz.prog 58 [.int .i64 x, .int .i64 m] w0 fun v w => v = .int .i64 (x % m) ∧ Below w0.heap.size w0 w := by
 refine calls_of (n := 12) Tryz.func58 rfl Tryz.ntmps58 rfl ?_
 have hI := Inv.start w0
 have h1 := Int.lt_tmod_of_pos x h.1
 have h2 := Int.tmod_lt_of_pos x h.1
 refine wp_seq (rgn (by kernel_rfl) (pu (iv 0) (by kernel_rfl) (seq_nil (wp_seq (rgn (by kernel_rfl) (pu (iv x) (by kernel_rfl) (pu (iv m) (by kernel_rfl) (seq_c (s_rem rfl rfl h.1 ?_)))))))))
 refine pu (iv m) (by kernel_rfl) (seq_c (s_add rfl rfl (by omega) ?_))
 refine pu (iv m) (by kernel_rfl) (seq_c (s_rem rfl rfl h.1 ?_))
 rw [mod_eq h.1]
 refine pu (iv (x % m)) (by kernel_rfl) (seq_nil (wp_ret ?_))
 exact ⟨iv (x % m), Ret.r1 rfl rfl, ⟨rfl, hI.below⟩⟩
end Go.K
end
