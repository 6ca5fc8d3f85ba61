/- Numbers in order, each once. -/
import Derived.Test.YtinkdlmimiefaaaGreatProg
import Derived.Test.YtinkdlmimiefaaaGreatPM17
import Derived.Test.YtinkdlmimiefaaaGreatPSh
namespace Go.K
open Go.Proofs Go.RowKit
set_option linter.unusedVariables false
set_option linter.unusedSimpArgs false
set_option maxRecDepth 100000
attribute [local irreducible] Seq Step CallV AnyE opX

def sortI (l : List Int) : List Int := l.mergeSort fun x y => decide (x ≤ y)
theorem sortI_len (l : List Int) : (sortI l).length = l.length := List.length_mergeSort _
theorem holds_of {w : World} {b n c : Nat} {cl : List Value} {l : List Int} (hb : w.heap[b]? = some (blk cl 3)) (hr : Row 1 (some b) n c cl (flat eInt l)) : Go.Sort.Holds (Value.int .i64) w b 0 l.toArray := fun j hj => by
  have hj' : j < l.length := by simpa using hj
  have h1 := hr.atS eInt_len (by decide) (List.getElem?_eq_getElem hj') 0 _ rfl
  rw [Nat.mul_one, Nat.add_zero] at h1
  refine ⟨?_, by simp [World.frozen?, hb]⟩
  have h2 := blk_cell hb h1
  rw [Nat.zero_add, h2]
  simp [hj']
theorem Sort1_c (w0 : World) (b n c : Nat) (cl : List Value) (l : List Int) (hb : w0.heap[b]? = some (blk cl 3)) (hr : Row 1 (some b) n c cl (flat eInt l)) (hmax : n ≤ 1000000000) : Does Tryz.prog 69 [slv (some b) n c] w0 fun v w => TurnsIn 1 3 (some b) c n (flat eInt (sortI l)) w0 v w := by
  have hn := hr.n_eq eInt_len (by decide)
  subst hn
  refine Calls.mono (Go.Proofs.Tryz.slices_Sort_int b 0 c l w0 (holds_of hb hr) (blk_lt hb) (by omega)) ?_
  rintro e w' ⟨rfl, nn, os, rfl⟩
  have hs : (flat eInt l).length = l.length := by rw [flat_len eInt_len]; omega
  have hcl : cl.length = c := by have := hr.size; omega
  have hcap := hr.cap
  have hlen : (flat eInt (sortI l)).length = l.length := by rw [flat_len eInt_len, sortI_len]; omega
  refine ⟨_, rfl, flat eInt (sortI l) ++ cl.drop l.length, rfl, ?_, ?_⟩
  · have hlt := blk_lt hb
    refine (Inv.lent w0 (some b) (blk cl 3) (fun b' h => by injection h with h; rw [← h]; exact hb)).turn (i := 0) (o' := blk (flat eInt (sortI l) ++ cl.drop l.length) 3) rfl rfl rfl rfl (by simp [Go.Sort.ahead]) (fun k hk hg => ?_) (fun b' h => ?_)
    · rw [Go.Sort.heap_grow_old _ _ (by simpa [Go.Sort.ahead] using hk)]
      simp only [Go.Sort.putRow, Go.Sort.mapBlock, Go.Sort.ahead]
      rw [Array.getElem?_modify, if_neg (fun e => hg (by rw [e]))]
    · injection h with h; subst h
      rw [Go.Sort.heap_grow_old _ _ (by simpa [Go.Sort.ahead] using hlt)]
      simp only [Go.Sort.putRow, Go.Sort.mapBlock, Go.Sort.ahead]
      rw [Array.getElem?_modify, if_pos rfl, hb]
      simp only [Option.map_some, Go.Sort.onCells]
      congr 2
      apply Array.ext_getElem?
      intro q
      simp only [Go.Sort.putCells, Array.getElem?_mapIdx, List.getElem?_toArray]
      rcases Nat.lt_or_ge q l.length with h1 | h1
      · have hq2 : q < (sortI l).length := by rw [sortI_len]; exact h1
        rw [List.getElem?_append_left (by omega), List.getElem?_eq_getElem (show q < cl.length by omega)]
        have h2 := flat_get eInt_len (sortI l) q 0 _ (List.getElem?_eq_getElem hq2) (by decide)
        rw [Nat.mul_one, Nat.add_zero] at h2
        rw [h2]
        have hq3 : q < (List.mergeSort l fun x y => decide (x ≤ y)).length := hq2
        simp [eInt, sortI, h1]
      · rw [List.getElem?_append_right (by omega), hlen, List.getElem?_drop, show l.length + (q - l.length) = q by omega]
        cases hc : cl[q]? with
        | none => rfl
        | some u => simp [Nat.not_lt.2 h1]
  · exact ⟨by omega, hcap, hr.capmax, by rw [List.length_append, List.length_drop]; omega, by rw [Nat.mul_one]; exact List.take_left' hlen, fun h => by cases h⟩
theorem Sort_c (w0 : World) (g : Option Nat) (n c : Nat) (cl : List Value) (l : List Int) (hg : ∀ b, g = some b → w0.heap[b]? = some (blk cl 3)) (hr : Row 1 g n c cl (flat eInt l)) (hmax : n ≤ 1000000000) : Does Tryz.prog 69 [slv g n c] w0 fun v w => TurnsIn 1 3 g c n (flat eInt (sortI l)) w0 v w := by
  cases g with
  | none =>
    have hc := hr.nil rfl
    have hn : n = 0 := by have := hr.cap; omega
    subst hc; subst hn
    have hl : l = [] := List.eq_nil_of_length_eq_zero (hr.n_eq eInt_len (by decide)).symm
    subst hl
    refine Calls.mono (Go.Proofs.Tryz.slices_Sort_int_none none 0 w0) ?_
    rintro e w' ⟨rfl, rfl⟩
    exact ⟨_, rfl, cl, rfl, Inv.lent w' none (blk cl 3) (fun b h => by cases h), by simpa [sortI] using hr⟩
  | some b => exact Sort1_c w0 b n c cl l (hg b rfl) hr hmax
def compG : Int → List Int → List Int
  | _, [] => []
  | a, b :: l => if b = a then compG a l else b :: compG b l
/-- A list without what is as the one before it. -/
def compactI : List Int → List Int
  | [] => []
  | a :: l => a :: compG a l
theorem compG_snoc : ∀ (l : List Int) (a y z : Int), (a :: l)[l.length]? = some y → compG a (l ++ [z]) = compG a l ++ (if z = y then [] else [z])
  | [], a, y, z, h => by
    simp only [List.length_nil, List.getElem?_cons_zero, Option.some.injEq] at h
    subst h
    simp only [List.nil_append, compG]
  | b :: l, a, y, z, h => by
    have h' : (b :: l)[l.length]? = some y := by simpa using h
    simp only [List.cons_append, compG]
    split
    · rename_i e; subst e; exact compG_snoc l b y z h'
    · rw [compG_snoc l b y z h', List.cons_append]
theorem compact_snoc {l : List Int} {k : Nat} {y z : Int} (hy : l[k]? = some y) (hz : l[k + 1]? = some z) : compactI (l.take (k + 2)) = compactI (l.take (k + 1)) ++ (if z = y then [] else [z]) := by
  rw [take_get hz]
  cases l with
  | nil => simp at hy
  | cons a l =>
    have hk := lt_of_get hz
    simp only [List.length_cons] at hk
    rw [List.take_succ_cons, List.cons_append]
    have hl : (l.take k).length = k := by rw [List.length_take]; omega
    have := compG_snoc (l.take k) a y z (by
      rw [hl]
      cases k with
      | zero => simpa using hy
      | succ k => rw [List.getElem?_cons_succ] at hy ⊢; rw [List.getElem?_take, if_pos (by omega)]; exact hy)
    simp only [compactI, this, List.cons_append]
/-- What Compact knows in its second loop: k elements are looked at, i are kept. -/
structure Cmp (l M : List Int) (k i : Nat) : Prop where
  len : M.length = l.length
  kept : M.take i = compactI (l.take k)
  cnt : i = (compactI (l.take k)).length
  rest : ∀ q, k ≤ q + 1 → M[q]? = l[q]?
  lt : i < k
  le : k ≤ l.length
theorem Cmp.start {l : List Int} {i : Nat} {x y : Int} (h : compactI (l.take i) = l.take i) (hi : 1 ≤ i) (hx : l[i]? = some x) (hy : l[i - 1]? = some y) (he : x = y) : Cmp l l (i + 1) i := by
  have hl := lt_of_get hx
  have e : compactI (l.take (i + 1)) = l.take i := by
    obtain ⟨j, rfl⟩ : ∃ j, i = j + 1 := ⟨i - 1, by omega⟩
    rw [compact_snoc (by simpa using hy) hx, h, if_pos he, List.append_nil]
  exact ⟨rfl, e.symm, by rw [e, List.length_take]; omega, fun q _ => rfl, by omega, by omega⟩
theorem Cmp.same {l M : List Int} {k i : Nat} {x y : Int} (h : Cmp l M k i) (hx : M[k]? = some x) (hy : M[k - 1]? = some y) (he : x = y) : Cmp l M (k + 1) i := by
  have h1 := h.lt
  have hx' : l[k]? = some x := by rw [← h.rest k (by omega)]; exact hx
  have hy' : l[k - 1]? = some y := by rw [← h.rest (k - 1) (by omega)]; exact hy
  have e : compactI (l.take (k + 1)) = compactI (l.take k) := by
    obtain ⟨j, rfl⟩ : ∃ j, k = j + 1 := ⟨k - 1, by omega⟩
    rw [compact_snoc (by simpa using hy') hx', if_pos he, List.append_nil]
  exact ⟨h.len, by rw [e]; exact h.kept, by rw [e]; exact h.cnt, fun q hq => h.rest q (by omega), by omega, lt_of_get hx'⟩
theorem Cmp.other {l M : List Int} {k i : Nat} {x y : Int} (h : Cmp l M k i) (hx : M[k]? = some x) (hy : M[k - 1]? = some y) (he : ¬ x = y) : Cmp l (M.set i x) (k + 1) (i + 1) := by
  have h1 := h.lt
  have hx' : l[k]? = some x := by rw [← h.rest k (by omega)]; exact hx
  have hy' : l[k - 1]? = some y := by rw [← h.rest (k - 1) (by omega)]; exact hy
  have hk := lt_of_get hx'
  have e : compactI (l.take (k + 1)) = compactI (l.take k) ++ [x] := by
    obtain ⟨j, rfl⟩ : ∃ j, k = j + 1 := ⟨k - 1, by omega⟩
    rw [compact_snoc (by simpa using hy') hx', if_neg he]
  refine ⟨by rw [List.length_set]; exact h.len, ?_, by rw [e, List.length_append, ← h.cnt]; rfl, fun q hq => ?_, by omega, hk⟩
  · rw [e, ← h.kept, List.take_succ_eq_append_getElem (by rw [List.length_set, h.len]; omega)]
    simp [List.take_set_of_le]
  · rw [List.getElem?_set_ne (by omega)]; exact h.rest q (by omega)
theorem Cmp.done {l M : List Int} {k i : Nat} (h : Cmp l M k i) (hk : l.length ≤ k) : M.take i = compactI l ∧ i = (compactI l).length := by
  have h1 := h.kept
  have h2 := h.cnt
  rw [List.take_of_length_le hk] at h1 h2
  exact ⟨h1, h2⟩

end Go.K
