/- Numbers in order: slices.Sort over []int, by the library's contract. No condition. -/
import Derived.Test.YtofnbcfjdngakaaProg
import Derived.Test.YtofnbcfjdngakaaPLh
import Derived.Test.YtofnbcfjdngakaaPSh
namespace Go.K
open Go.Proofs Go.RowKit
set_option linter.unusedVariables false
set_option linter.unusedSimpArgs false
set_option maxRecDepth 100000
attribute [local irreducible] Seq Step CallV AnyE opX

theorem blk_lt {w : World} {b : Nat} {o : Obj} (h : w.heap[b]? = some o) : b < w.heap.size := by
  rcases Nat.lt_or_ge b w.heap.size with hlt | hge
  · exact hlt
  · rw [Array.getElem?_eq_none hge] at h; cases h
theorem blk_cell {w : World} {b : Nat} {cl : List Value} {E : TypeId} (h : w.heap[b]? = some (blk cl E)) {off : Nat} {v : Value} (hv : cl[off]? = some v) : w.cell? ⟨b, off, none⟩ = some v := by
  have hc : cl.toArray[off]? = some v := by simpa using hv
  simp [World.cell?, h, hc]
def sortM (l : List Int) : List Int := l.mergeSort fun x y => decide (x ≤ y)
theorem sortM_len (l : List Int) : (sortM l).length = l.length := List.length_mergeSort _
theorem holds_of {w : World} {b n c : Nat} {cl : List Value} {l : List Int} (hb : w.heap[b]? = some (blk cl 3)) (hr : Row 1 (some b) n c cl (flat eInt l)) : Go.Sort.Holds (Value.int .i64) w b 0 l.toArray := fun j hj => by
  have hj' : j < l.length := by simpa using hj
  have h1 := hr.atS eInt_len (by decide) (List.getElem?_eq_getElem hj') 0 _ rfl
  rw [Nat.mul_one, Nat.add_zero] at h1
  refine ⟨?_, by simp [World.frozen?, hb]⟩
  have h2 := blk_cell hb h1
  rw [Nat.zero_add, h2]
  simp [hj']
theorem Sort1_c (w0 : World) (b n c : Nat) (cl : List Value) (l : List Int) (hb : w0.heap[b]? = some (blk cl 3)) (hr : Row 1 (some b) n c cl (flat eInt l)) (hmax : n ≤ 1000000000) : Does Try.prog 97 [slv (some b) n c] w0 fun v w => TurnsIn 1 3 (some b) c n (flat eInt (sortM l)) w0 v w := by
  have hn := hr.n_eq eInt_len (by decide)
  subst hn
  refine Calls.mono (Go.Proofs.Try.slices_Sort_int b 0 c l w0 (holds_of hb hr) (blk_lt hb) (by omega)) ?_
  rintro e w' ⟨rfl, nn, os, rfl⟩
  have hs : (flat eInt l).length = l.length := by rw [flat_len eInt_len]; omega
  have hcl : cl.length = c := by have := hr.size; omega
  have hcap := hr.cap
  have hlen : (flat eInt (sortM l)).length = l.length := by rw [flat_len eInt_len, sortM_len]; omega
  refine ⟨_, rfl, flat eInt (sortM l) ++ cl.drop l.length, rfl, ?_, ?_⟩
  · have hlt := blk_lt hb
    refine (Inv.lent w0 (some b) (blk cl 3) (fun b' h => by injection h with h; rw [← h]; exact hb)).turn (i := 0) (o' := blk (flat eInt (sortM l) ++ cl.drop l.length) 3) rfl rfl rfl rfl (by simp [Go.Sort.ahead]) (fun k hk hg => ?_) (fun b' h => ?_)
    · rw [Go.Sort.heap_grow_old _ _ (by simpa [Go.Sort.ahead] using hk)]
      simp only [Go.Sort.putRow, Go.Sort.mapBlock, Go.Sort.ahead]
      rw [Array.getElem?_modify, if_neg (fun e => hg (by rw [e]))]
    · injection h with h; subst h
      rw [Go.Sort.heap_grow_old _ _ (by simpa [Go.Sort.ahead] using hlt)]
      simp only [Go.Sort.putRow, Go.Sort.mapBlock, Go.Sort.ahead]
      rw [Array.getElem?_modify, if_pos rfl, hb]
      simp only [Option.map_some, Go.Sort.onCells]
      congr 2
      apply Array.ext_getElem?
      intro q
      simp only [Go.Sort.putCells, Array.getElem?_mapIdx, List.getElem?_toArray]
      rcases Nat.lt_or_ge q l.length with h1 | h1
      · have hq2 : q < (sortM l).length := by rw [sortM_len]; exact h1
        rw [List.getElem?_append_left (by omega), List.getElem?_eq_getElem (show q < cl.length by omega)]
        have h2 := flat_get eInt_len (sortM l) q 0 _ (List.getElem?_eq_getElem hq2) (by decide)
        rw [Nat.mul_one, Nat.add_zero] at h2
        rw [h2]
        have hq3 : q < (List.mergeSort l fun x y => decide (x ≤ y)).length := hq2
        simp [eInt, sortM, h1]
      · rw [List.getElem?_append_right (by omega), hlen, List.getElem?_drop, show l.length + (q - l.length) = q by omega]
        cases hc : cl[q]? with
        | none => rfl
        | some u => simp [Nat.not_lt.2 h1]
  · exact ⟨by omega, hcap, hr.capmax, by rw [List.length_append, List.length_drop]; omega, by rw [Nat.mul_one]; exact List.take_left' hlen, fun h => by cases h⟩
theorem Sort_c (w0 : World) (g : Option Nat) (n c : Nat) (cl : List Value) (l : List Int) (hg : ∀ b, g = some b → w0.heap[b]? = some (blk cl 3)) (hr : Row 1 g n c cl (flat eInt l)) (hmax : n ≤ 1000000000) : Does Try.prog 97 [slv g n c] w0 fun v w => TurnsIn 1 3 g c n (flat eInt (sortM l)) w0 v w := by
  cases g with
  | none =>
    have hc := hr.nil rfl
    have hn : n = 0 := by have := hr.cap; omega
    subst hc; subst hn
    have hl : l = [] := List.eq_nil_of_length_eq_zero (hr.n_eq eInt_len (by decide)).symm
    subst hl
    refine Calls.mono (Go.Proofs.Try.slices_Sort_int_none none 0 w0) ?_
    rintro e w' ⟨rfl, rfl⟩
    exact ⟨_, rfl, cl, rfl, Inv.lent w' none (blk cl 3) (fun b h => by cases h), by simpa [sortM] using hr⟩
  | some b => exact Sort1_c w0 b n c cl l (hg b rfl) hr hmax
theorem sort_c {B : List Nat} {w0 w : World} {L : List (Option Nat × Obj)} (hI : Inv B w0 w L) (i : Nat) {g : Option Nat} {n c : Nat} {cl : List Value} {l : List Int} (hi : L[i]? = some (g, blk cl 3)) (hr : Row 1 g n c cl (flat eInt l)) (hmax : n ≤ 1000000000) :
    Does Try.prog 97 [slv g n c] w fun v w' => v = .tuple #[] ∧ ∃ cl', Inv B w0 w' (L.set i (g, blk cl' 3)) ∧ Row 1 g n c cl' (flat eInt (sortI l)) := by
  refine Does.mono (Sort_c w g n c cl l (hI.hasg i hi) hr hmax) ?_
  rintro v w' ⟨cl', hv, hN, hr'⟩
  rw [show sortM l = sortI l from mergeSort_eq l] at hr'
  exact ⟨hv, cl', hI.turned i hi hN.but (fun b hb => by subst hb; exact (hN.has 0 b _ rfl).1), hr'⟩
end Go.K
