/- Falling (f91), with what it needs, apart from the rest: for the evaluator. -/
import Derived.Test.YtinkdlmimiefaaaGreatProg
import Derived.Test.YtinkdlmimiefaaaGreatPSh
import Derived.Test.YtinkdlmimiefaaaGreatPKK2
import Derived.Test.YtinkdlmimiefaaaGreatPKK1
import Derived.Laws.MakeOwn
import Derived.Maps.RangeRun
namespace Go.K.Q
open Go.K Go.Proofs Go.RowKit
set_option linter.unusedVariables false
set_option linter.unusedSimpArgs false
set_option maxRecDepth 100000
attribute [local irreducible] Seq Step CallV AnyE opX

theorem blk_lt {w : World} {b : Nat} {o : Obj} (h : w.heap[b]? = some o) : b < w.heap.size := by
  rcases Nat.lt_or_ge b w.heap.size with hlt | hge
  · exact hlt
  · rw [Array.getElem?_eq_none hge] at h; cases h
theorem blk_cell {w : World} {b : Nat} {cl : List Value} {E : TypeId} (h : w.heap[b]? = some (blk cl E)) {off : Nat} {v : Value} (hv : cl[off]? = some v) : w.cell? ⟨b, off, none⟩ = some v := by
  have hc : cl.toArray[off]? = some v := by simpa using hv
  simp [World.cell?, h, hc]
theorem below_blk {w w' : World} (hb : Below w.heap.size w w') {b : Nat} {o : Obj} (h : w.heap[b]? = some o) : w'.heap[b]? = some o := (hb.block b (blk_lt h)).trans h
section steps
variable {P : Program} {ρ : Env} {B : Option Nat} {w w0 w' : World} {L N : List (Option Nat × Obj)} {R : Value → World → Prop}
theorem s_callTurns (hI : Inv B w0 w L) {o : Oper} (f : FuncId) (args : List Value) {k : Nat} {E : TypeId} {g : Option Nat} {n c : Nat} {xs : List Value} (i : Nat) {ob : Obj} (hi : L[i]? = some (g, ob)) (h : (execOp (ev ρ) o).run P w = .ok (.enter f args.toArray) w)
    (hc : Does P f args w fun v w' => TurnsIn k E g c n xs w v w') (kk : ∀ cl w', Inv B w0 w' ((g, blk cl E) :: L.set i (none, ob)) → Row k g n c cl xs → R (.tuple #[]) w') : Step P o ρ w R :=
  s_call f args h hc fun v w' ⟨cl, hv, hN, hr⟩ => by
    subst hv
    exact kk cl w' (hI.back i hi hN) hr
end steps
/-- What Reverse knows in its loop: i elements at both ends have been exchanged. -/
structure Rev {α : Type} (l M : List α) (i : Nat) : Prop where
  len : M.length = l.length
  at_ : ∀ q, q < l.length → M[q]? = if q < i ∨ l.length ≤ q + i then l[l.length - 1 - q]? else l[q]?
theorem Rev.start {α : Type} (l : List α) : Rev l l 0 := ⟨rfl, fun q hq => by rw [if_neg (by omega)]⟩
theorem Rev.step {α : Type} {l M : List α} {i j : Nat} (h : Rev l M i) (hij : i < j) (hj : i + j + 1 = l.length) {x y : α} (hx : M[i]? = some x) (hy : M[j]? = some y) : Rev l ((M.set i y).set j x) (i + 1) := by
  refine ⟨by simp [h.len], fun q hq => ?_⟩
  have hl := h.len
  by_cases e1 : q = j
  · subst e1
    rw [List.getElem?_set_self (by rw [List.length_set]; omega), if_pos (by omega), show l.length - 1 - q = i by omega, ← hx, h.at_ i (by omega), if_neg (by omega)]
  · rw [List.getElem?_set_ne (by omega)]
    by_cases e2 : q = i
    · subst e2
      rw [List.getElem?_set_self (by omega), if_pos (by omega), show l.length - 1 - q = j by omega, ← hy, h.at_ j (by omega), if_neg (by omega)]
    · rw [List.getElem?_set_ne (by omega), h.at_ q hq]
      by_cases e3 : q < i ∨ l.length ≤ q + i
      · rw [if_pos e3, if_pos (by omega)]
      · rw [if_neg e3, if_neg (by omega)]
theorem Rev.done {α : Type} {l M : List α} {i : Nat} (h : Rev l M i) (hi : l.length ≤ 2 * i + 1) : M = l.reverse := by
  apply List.ext_getElem?
  intro q
  rcases Nat.lt_or_ge q l.length with hq | hq
  · rw [h.at_ q hq, List.getElem?_reverse hq]
    by_cases e : q < i ∨ l.length ≤ q + i
    · rw [if_pos e]
    · rw [if_neg e, show l.length - 1 - q = q by omega]
  · rw [List.getElem?_eq_none (by rw [h.len]; exact hq), List.getElem?_eq_none (by rw [List.length_reverse]; exact hq)]


theorem ReverseInts_c0 (w0 : World) (cl : List Value) (hr0 : Row 1 none 0 0 cl (flat eInt ([] : List Int))) : Does Tryz.prog 93 [slv none 0 0] w0 fun v w => TurnsIn 1 3 none 0 0 (flat eInt ([] : List Int).reverse) w0 v w := by
 refine calls_of (n := 28) Tryz.func93 rfl Tryz.ntmps93 rfl ?_
 have hI := Inv.lent w0 none (blk cl 3) (fun b h => by cases h)
 refine wp_seq (rgn (by kernel_rfl) (pu (slv none 0 0) (by kernel_rfl) (pu (iv ((0 : Nat) : Int)) (by kernel_rfl) (seq_c (s_sub rfl rfl (by omega) ?_)))))
 refine pu (iv 0) (by kernel_rfl) (pu (iv (0 - 1)) (by kernel_rfl) (seq_nil (wp_block ?_)))
 refine wp_loop (fun m ρ w => Agree ρ [(0, slv none 0 0), (2, iv 0), (3, iv (0 - 1))] ∧ Inv none w0 w [(none, blk cl 3)] ∧ m = 0) (m := 0) ⟨⟨rfl, rfl, rfl, trivial⟩, hI.pickL [0] (by decide) rfl, rfl⟩ ?_
 rintro m ρ w ⟨hag, hI, hm⟩
 obtain ⟨ρ, rfl⟩ := hag.form; clear hag
 refine wp_seq (wp_seq (rgn (by kernel_rfl) (pu (iv 0) (by kernel_rfl) (pu (iv (0 - 1)) (by kernel_rfl) (seq_c (s_lss rfl rfl ?_ ?_))))))
 ·intro h1
  exact absurd h1 (by omega)
 ·intro h2
  refine seq_nil (wp_condF rfl (wp_exit ?_))
  exact ⟨.tuple #[], Ret.r0 rfl , ⟨cl, rfl, hI.pickL [0] (by decide) rfl, hr0⟩⟩

set_option maxHeartbeats 1600000 in
theorem ReverseInts_c1 (w0 : World) (b0 n c : Nat) (cl : List Value) (l : List Int) (hg : ∀ b, some b0 = some b → w0.heap[b]? = some (blk cl 3)) (hr : Row 1 (some b0) n c cl (flat eInt l)) (hmax : n ≤ 1000000000) : Does Tryz.prog 93 [slv (some b0) n c] w0 fun v w => TurnsIn 1 3 (some b0) c n (flat eInt l.reverse) w0 v w := by
 have hnl := hr.n_eq eInt_len (by decide)
 have hmx := hr.capmax; unfold maxLen at hmx; have hcp := hr.cap
 refine calls_of (n := 28) Tryz.func93 rfl Tryz.ntmps93 rfl ?_
 have hI := Inv.lent w0 (some b0) (blk cl 3) hg
 refine wp_seq (rgn (by kernel_rfl) (pu (slv (some b0) n c) (by kernel_rfl) (pu (iv ((n : Nat) : Int)) (by kernel_rfl) (seq_c (s_sub rfl rfl (by omega) ?_)))))
 refine pu (iv 0) (by kernel_rfl) (pu (iv ((n : Int) - 1)) (by kernel_rfl) (seq_nil (wp_block ?_)))
 refine wp_loop (fun m ρ w => ∃ (i : Nat) (jv : Int) (ccl : List Value) (M : List Int), Agree ρ [(0, slv (some b0) n c), (2, iv (i : Int)), (3, iv jv)] ∧ Inv (some b0) w0 w [(some b0, blk ccl 3)] ∧ ((i : Int) + jv = (n : Int) - 1) ∧ (Rev l M i) ∧ (Row 1 (some b0) n c ccl (flat eInt M)) ∧ ((i : Int) ≤ jv + 1 ∨ i = 0) ∧ m = n - i) (m := n - 0) ⟨0, (n : Int) - 1, cl, l, ⟨rfl, rfl, rfl, trivial⟩, hI.pickL [0] (by decide) rfl, (by omega), (Rev.start l), hr, (by omega), rfl⟩ ?_
 rintro m ρ w ⟨i, jv, ccl, M, hag, hI, hij, hv, hrr, hi2, hm⟩
 obtain ⟨ρ, rfl⟩ := hag.form; clear hag
 refine wp_seq (wp_seq (rgn (by kernel_rfl) (pu (iv (i : Int)) (by kernel_rfl) (pu (iv jv) (by kernel_rfl) (seq_c (s_lss rfl rfl ?_ ?_))))))
 ·intro h1
  refine seq_nil (wp_condT rfl (wp_skip (wp_seq (wp_block ?_))))
  have hl9 := hv.len
  obtain ⟨j, hj⟩ : ∃ j : Nat, jv = (j : Int) := ⟨jv.toNat, by omega⟩
  obtain ⟨x1, hx2⟩ := get_lt (l := M) (i := i) (by omega)
  have he3 := hrr.atS eInt_len (by decide) hx2
  obtain ⟨x4, hx5⟩ := get_lt (l := M) (i := j) (by omega)
  have he6 := hrr.atS eInt_len (by decide) hx5
  have hjn : j < n := by omega
  replace hI := hI.pickL [0] (by decide) rfl
  refine wp_drawn2 hI [] (by decide) rfl (by kernel_rfl) (by kernel_rfl) ?_
  intro hsub
  refine alp 0 (slv (some b0) n c) hsub rfl (by kernel_rfl) (fun _ => (by kernel_rfl)) ?_
  refine alp 1 (iv (i : Int)) hsub rfl (by kernel_rfl) (fun _ => (by kernel_rfl)) ?_
  refine alp 2 (slv (some b0) n c) hsub rfl (by kernel_rfl) (fun _ => (by kernel_rfl)) ?_
  refine alp 3 (iv jv) hsub rfl (by kernel_rfl) (fun _ => (by kernel_rfl)) ?_
  refine alp 4 (slv (some b0) n c) hsub rfl (by kernel_rfl) (fun _ => (by kernel_rfl)) ?_
  refine alp 5 (iv jv) hsub rfl (by kernel_rfl) (fun _ => (by kernel_rfl)) ?_
  refine al_light 6 (.pointer (some ⟨b0, j * 1, none⟩)) hsub rfl (by kernel_rfl) (fun w hI => s_indexR j Tryz.underlying41 Tryz.sizeOf3 rfl rfl (by omega) (by omega) ⟨rfl, Below.refl _ _⟩) ?_
  refine alp 8 (slv (some b0) n c) hsub rfl (by kernel_rfl) (fun _ => (by kernel_rfl)) ?_
  refine alp 9 (iv (i : Int)) hsub rfl (by kernel_rfl) (fun _ => (by kernel_rfl)) ?_
  refine al_light 10 (.pointer (some ⟨b0, i * 1, none⟩)) hsub rfl (by kernel_rfl) (fun w hI => s_indexR i Tryz.underlying41 Tryz.sizeOf3 rfl rfl rfl (by omega) ⟨rfl, Below.refl _ _⟩) ?_
  refine any_heavy [7, 11] (by kernel_rfl) rfl (each2 ?_ ?_)
  ·intro w hI
   refine ol_c rfl (s_loadR1 hI 0 (iv x4) Tryz.isAgg3 rfl rfl (he6 0 _ rfl) ?_)
   refine ⟨_, hI, subk (fun _ h => h.pickL [] (by decide) rfl) ?_⟩
   intro hsub
   refine any_heavy [11] (by kernel_rfl) rfl (each1 ?_)
   intro w hI
   refine ol_c rfl (s_loadR1 hI 0 (iv x1) Tryz.isAgg3 rfl rfl (he3 0 _ rfl) ?_)
   refine ⟨_, hI, subk (fun _ h => h.pickL [] (by decide) rfl) ?_⟩
   intro hsub
   refine al_light 12 (.pointer (some ⟨b0, i * 1, none⟩)) hsub rfl (by kernel_rfl) (fun w hI => s_indexR i Tryz.underlying41 Tryz.sizeOf3 rfl rfl rfl (by omega) ⟨rfl, Below.refl _ _⟩) ?_
   refine any_heavy [13] (by kernel_rfl) rfl (each1 ?_)
   intro w hI
   refine ol_c rfl (s_store hI 0 1 [iv x4] Tryz.sizeOf3 rfl rfl rfl rfl rfl (hrr.room (by omega)) ?_)
   intro w hI
   refine ⟨_, hI, subk (fun _ h => h.pickL [] (by decide) rfl) ?_⟩
   intro hsub
   have r7 := hrr.put eInt_len (by decide) i x4 (by omega)
   obtain ⟨x9, hx10⟩ := get_lt (l := (M).set i x4) (i := j) (by first | omega | (simp only [List.length_set]; omega))
   have he11 := r7.atS eInt_len (by decide) hx10
   refine al_light 14 (.pointer (some ⟨b0, j * 1, none⟩)) hsub rfl (by kernel_rfl) (fun w hI => s_indexR j Tryz.underlying41 Tryz.sizeOf3 rfl rfl (by omega) (by omega) ⟨rfl, Below.refl _ _⟩) ?_
   refine any_heavy [15] (by kernel_rfl) rfl (each1 ?_)
   intro w hI
   refine ol_c rfl (s_store hI 0 1 [iv x1] Tryz.sizeOf3 rfl rfl rfl rfl rfl (r7.room (by omega)) ?_)
   intro w hI
   refine ⟨_, hI, subk (fun _ h => h.pickL [] (by decide) rfl) ?_⟩
   intro hsub
   have r12 := r7.put eInt_len (by decide) j x1 (by omega)
   refine any_end (by kernel_rfl) (fun w hI => ?_)
   refine rgn (by kernel_rfl) (pu (iv (i : Int)) (by kernel_rfl) (seq_c (s_add rfl rfl (by omega) ?_)))
   refine pu (iv jv) (by kernel_rfl) (seq_c (s_sub rfl rfl (by omega) ?_))
   refine pu (iv ((i : Int) + 1)) (by kernel_rfl) (pu (iv (jv - 1)) (by kernel_rfl) (seq_nil ?_))
   exact ⟨rfl, _, (by omega), ⟨i + 1, jv - 1, putCells (putCells ccl (i * 1) (eInt x4)) (j * 1) (eInt x1), (((M).set i x4).set j x1), ⟨rfl, rfl, rfl, trivial⟩, hI.pickL [0] (by decide) rfl, (by omega), (hv.step (by omega) (by omega) hx2 hx5), r12, (by omega), rfl⟩⟩
  ·intro w hI
   refine ol_c rfl (s_loadR1 hI 0 (iv x1) Tryz.isAgg3 rfl rfl (he3 0 _ rfl) ?_)
   refine ⟨_, hI, subk (fun _ h => h.pickL [] (by decide) rfl) ?_⟩
   intro hsub
   refine any_heavy [7] (by kernel_rfl) rfl (each1 ?_)
   intro w hI
   refine ol_c rfl (s_loadR1 hI 0 (iv x4) Tryz.isAgg3 rfl rfl (he6 0 _ rfl) ?_)
   refine ⟨_, hI, subk (fun _ h => h.pickL [] (by decide) rfl) ?_⟩
   intro hsub
   refine al_light 12 (.pointer (some ⟨b0, i * 1, none⟩)) hsub rfl (by kernel_rfl) (fun w hI => s_indexR i Tryz.underlying41 Tryz.sizeOf3 rfl rfl rfl (by omega) ⟨rfl, Below.refl _ _⟩) ?_
   refine any_heavy [13] (by kernel_rfl) rfl (each1 ?_)
   intro w hI
   refine ol_c rfl (s_store hI 0 1 [iv x4] Tryz.sizeOf3 rfl rfl rfl rfl rfl (hrr.room (by omega)) ?_)
   intro w hI
   refine ⟨_, hI, subk (fun _ h => h.pickL [] (by decide) rfl) ?_⟩
   intro hsub
   have r14 := hrr.put eInt_len (by decide) i x4 (by omega)
   obtain ⟨x16, hx17⟩ := get_lt (l := (M).set i x4) (i := j) (by first | omega | (simp only [List.length_set]; omega))
   have he18 := r14.atS eInt_len (by decide) hx17
   refine al_light 14 (.pointer (some ⟨b0, j * 1, none⟩)) hsub rfl (by kernel_rfl) (fun w hI => s_indexR j Tryz.underlying41 Tryz.sizeOf3 rfl rfl (by omega) (by omega) ⟨rfl, Below.refl _ _⟩) ?_
   refine any_heavy [15] (by kernel_rfl) rfl (each1 ?_)
   intro w hI
   refine ol_c rfl (s_store hI 0 1 [iv x1] Tryz.sizeOf3 rfl rfl rfl rfl rfl (r14.room (by omega)) ?_)
   intro w hI
   refine ⟨_, hI, subk (fun _ h => h.pickL [] (by decide) rfl) ?_⟩
   intro hsub
   have r19 := r14.put eInt_len (by decide) j x1 (by omega)
   refine any_end (by kernel_rfl) (fun w hI => ?_)
   refine rgn (by kernel_rfl) (pu (iv (i : Int)) (by kernel_rfl) (seq_c (s_add rfl rfl (by omega) ?_)))
   refine pu (iv jv) (by kernel_rfl) (seq_c (s_sub rfl rfl (by omega) ?_))
   refine pu (iv ((i : Int) + 1)) (by kernel_rfl) (pu (iv (jv - 1)) (by kernel_rfl) (seq_nil ?_))
   exact ⟨rfl, _, (by omega), ⟨i + 1, jv - 1, putCells (putCells ccl (i * 1) (eInt x4)) (j * 1) (eInt x1), (((M).set i x4).set j x1), ⟨rfl, rfl, rfl, trivial⟩, hI.pickL [0] (by decide) rfl, (by omega), (hv.step (by omega) (by omega) hx2 hx5), r19, (by omega), rfl⟩⟩
 ·intro h2
  refine seq_nil (wp_condF rfl (wp_exit ?_))
  exact ⟨.tuple #[], Ret.r0 rfl , ⟨ccl, rfl, hI.pickL [0] (by decide) rfl, (hrr.to (hv.done (by omega)) rfl)⟩⟩

theorem ReverseInts_c (w0 : World) (g : Option Nat) (n c : Nat) (cl : List Value) (l : List Int) (hg : ∀ b, g = some b → w0.heap[b]? = some (blk cl 3)) (hr : Row 1 g n c cl (flat eInt l)) (hmax : n ≤ 1000000000) : Does Tryz.prog 93 [slv g n c] w0 fun v w => TurnsIn 1 3 g c n (flat eInt l.reverse) w0 v w := by
  cases g with
  | none =>
    have hc := hr.nil rfl
    have hn : n = 0 := by have := hr.cap; omega
    subst hc; subst hn
    have hl : l = [] := List.eq_nil_of_length_eq_zero (hr.n_eq eInt_len (by decide)).symm
    subst hl
    exact ReverseInts_c0 w0 cl hr
  | some b => exact ReverseInts_c1 w0 b n c cl l hg hr hmax


def sortI (l : List Int) : List Int := l.mergeSort fun x y => decide (x ≤ y)
theorem sortI_len (l : List Int) : (sortI l).length = l.length := List.length_mergeSort _
theorem holds_of {w : World} {b n c : Nat} {cl : List Value} {l : List Int} (hb : w.heap[b]? = some (blk cl 3)) (hr : Row 1 (some b) n c cl (flat eInt l)) : Go.Sort.Holds (Value.int .i64) w b 0 l.toArray := fun j hj => by
  have hj' : j < l.length := by simpa using hj
  have h1 := hr.atS eInt_len (by decide) (List.getElem?_eq_getElem hj') 0 _ rfl
  rw [Nat.mul_one, Nat.add_zero] at h1
  refine ⟨?_, by simp [World.frozen?, hb]⟩
  have h2 := blk_cell hb h1
  rw [Nat.zero_add, h2]
  simp [hj']
theorem Sort1_c (w0 : World) (b n c : Nat) (cl : List Value) (l : List Int) (hb : w0.heap[b]? = some (blk cl 3)) (hr : Row 1 (some b) n c cl (flat eInt l)) (hmax : n ≤ 1000000000) : Does Tryz.prog 69 [slv (some b) n c] w0 fun v w => TurnsIn 1 3 (some b) c n (flat eInt (sortI l)) w0 v w := by
  have hn := hr.n_eq eInt_len (by decide)
  subst hn
  refine Calls.mono (Go.Proofs.Tryz.slices_Sort_int b 0 c l w0 (holds_of hb hr) (blk_lt hb) (by omega)) ?_
  rintro e w' ⟨rfl, nn, os, rfl⟩
  have hs : (flat eInt l).length = l.length := by rw [flat_len eInt_len]; omega
  have hcl : cl.length = c := by have := hr.size; omega
  have hcap := hr.cap
  have hlen : (flat eInt (sortI l)).length = l.length := by rw [flat_len eInt_len, sortI_len]; omega
  refine ⟨_, rfl, flat eInt (sortI l) ++ cl.drop l.length, rfl, ?_, ?_⟩
  · have hlt := blk_lt hb
    refine (Inv.lent w0 (some b) (blk cl 3) (fun b' h => by injection h with h; rw [← h]; exact hb)).turn (i := 0) (o' := blk (flat eInt (sortI l) ++ cl.drop l.length) 3) rfl rfl rfl rfl (by simp [Go.Sort.ahead]) (fun k hk hg => ?_) (fun b' h => ?_)
    · rw [Go.Sort.heap_grow_old _ _ (by simpa [Go.Sort.ahead] using hk)]
      simp only [Go.Sort.putRow, Go.Sort.mapBlock, Go.Sort.ahead]
      rw [Array.getElem?_modify, if_neg (fun e => hg (by rw [e]))]
    · injection h with h; subst h
      rw [Go.Sort.heap_grow_old _ _ (by simpa [Go.Sort.ahead] using hlt)]
      simp only [Go.Sort.putRow, Go.Sort.mapBlock, Go.Sort.ahead]
      rw [Array.getElem?_modify, if_pos rfl, hb]
      simp only [Option.map_some, Go.Sort.onCells]
      congr 2
      apply Array.ext_getElem?
      intro q
      simp only [Go.Sort.putCells, Array.getElem?_mapIdx, List.getElem?_toArray]
      rcases Nat.lt_or_ge q l.length with h1 | h1
      · have hq2 : q < (sortI l).length := by rw [sortI_len]; exact h1
        rw [List.getElem?_append_left (by omega), List.getElem?_eq_getElem (show q < cl.length by omega)]
        have h2 := flat_get eInt_len (sortI l) q 0 _ (List.getElem?_eq_getElem hq2) (by decide)
        rw [Nat.mul_one, Nat.add_zero] at h2
        rw [h2]
        have hq3 : q < (List.mergeSort l fun x y => decide (x ≤ y)).length := hq2
        simp [eInt, sortI, h1]
      · rw [List.getElem?_append_right (by omega), hlen, List.getElem?_drop, show l.length + (q - l.length) = q by omega]
        cases hc : cl[q]? with
        | none => rfl
        | some u => simp [Nat.not_lt.2 h1]
  · exact ⟨by omega, hcap, hr.capmax, by rw [List.length_append, List.length_drop]; omega, by rw [Nat.mul_one]; exact List.take_left' hlen, fun h => by cases h⟩
theorem Sort_c (w0 : World) (g : Option Nat) (n c : Nat) (cl : List Value) (l : List Int) (hg : ∀ b, g = some b → w0.heap[b]? = some (blk cl 3)) (hr : Row 1 g n c cl (flat eInt l)) (hmax : n ≤ 1000000000) : Does Tryz.prog 69 [slv g n c] w0 fun v w => TurnsIn 1 3 g c n (flat eInt (sortI l)) w0 v w := by
  cases g with
  | none =>
    have hc := hr.nil rfl
    have hn : n = 0 := by have := hr.cap; omega
    subst hc; subst hn
    have hl : l = [] := List.eq_nil_of_length_eq_zero (hr.n_eq eInt_len (by decide)).symm
    subst hl
    refine Calls.mono (Go.Proofs.Tryz.slices_Sort_int_none none 0 w0) ?_
    rintro e w' ⟨rfl, rfl⟩
    exact ⟨_, rfl, cl, rfl, Inv.lent w' none (blk cl 3) (fun b h => by cases h), by simpa [sortI] using hr⟩
  | some b => exact Sort1_c w0 b n c cl l (hg b rfl) hr hmax
def it (mb ck : Nat) (vis : List En) : Obj := .mapIter (some mb) ck (vis.map En.born).toArray ck
section steps
variable {P : Program} {ρ : Env} {B : Option Nat} {w w0 : World} {L : List (Option Nat × Obj)} {R : Value → World → Prop} {d : Option Nat} {ty : TypeId} {pos : String} {af : Array Edge} {gd : Option (Nat × Bool)}
/-- m[k], the map not the call's own. -/
theorem s_range (hI : Inv B w0 w L) {T K E : TypeId} {x : Operand} {mb : Nat} {es : List En} {ck : Nat} (hT : P.underlying T = some (.map K E)) (hx : ev ρ x = .map (some mb)) (hm : w.heap[mb]? = some (mobj es ck))
    (k : ∀ r w', Inv B w0 w' ((some r, it mb ck []) :: L) → R (.pointer (some ⟨r, 0, none⟩)) w') : Step P ⟨d, .range T x, ty, pos, af, gd⟩ ρ w R := by
  have h : (execOp (ev ρ) ⟨d, .range T x, ty, pos, af, gd⟩).run P w = .ok (.value (.pointer (some ⟨w.heap.size, 0, none⟩))) (w.alloc (it mb ck [])) := by
    have : execOp (ev ρ) ⟨d, .range T x, ty, pos, af, gd⟩ = (do pure (.value (← Instr.range T (ev ρ x)))) := rfl
    rw [this, hx]
    have hgo : (getObj mb).run P w = .ok (mobj es ck) w := by simp [getObj, Sem.run, hm]
    simp [Instr.range, run_underlying hT, Sem.run_bind, hgo, Result.andThen, it]
  unfold Step; rw [h]; exact k _ _ (hI.alloc _)
theorem s_next (hI : Inv B w0 w L) {x : Operand} {r mb : Nat} {es : List En} {ck : Nat} {vis : List En} (ix : Nat) (hx : ev ρ x = .pointer (some ⟨r, 0, none⟩)) (hL : L[ix]? = some (some r, it mb ck vis)) (hm : w.heap[mb]? = some (mobj es ck)) (ho : MOk es ck)
    (kT : ∀ e w', e ∈ es → e.born ∉ vis.map En.born → Inv B w0 w' (L.set ix (some r, it mb ck (vis ++ [e]))) → R (.tuple #[.bool true, .int .i64 e.key, e.val]) w')
    (kF : (∀ e ∈ es, e.born ∈ vis.map En.born) → R (.tuple #[.bool false]) w) : Step P ⟨d, .next x false, ty, pos, af, gd⟩ ρ w R := by
  have hr := (hI.has ix r _ hL).1
  have he : execOp (ev ρ) ⟨d, .next x false, ty, pos, af, gd⟩ = (do pure (.value (← Instr.next (ev ρ x) false ty))) := rfl
  rcases run_next_at (P := P) w ty r mb ck ck (vis.map En.born).toArray (es.map toE).toArray ck hr hm (fun e he => by
    simp only [List.mem_map] at he
    obtain ⟨e', he', rfl⟩ := he
    exact ho.lt e' he') (Nat.le_refl _) with ⟨h0, hrun⟩ | ⟨e, hmem, w1, hw1, hrun⟩
  · refine s_pure (.tuple #[.bool false]) (by rw [he, hx, Sem.run_bind, hrun]; rfl) (kF fun e hm' => ?_)
    have h1 : (leftOf (es.map toE).toArray (vis.map En.born).toArray) = #[] := Array.eq_empty_of_size_eq_zero h0
    unfold leftOf at h1
    rw [Array.filter_eq_empty_iff] at h1
    have := h1 (toE e) (by simpa using ⟨e, hm', rfl⟩)
    simpa [toE] using this
  · unfold leftOf at hmem
    simp only [Array.mem_toList_iff, Array.mem_filter, List.mem_toArray, List.mem_map] at hmem
    obtain ⟨⟨e', he', rfl⟩, hno⟩ := hmem
    have hI1 : Inv B w0 w1 L := by rcases hw1 with rfl | rfl; exact hI; exact hI.drew
    have h : (execOp (ev ρ) ⟨d, .next x false, ty, pos, af, gd⟩).run P w = .ok (.value (.tuple #[.bool true, .int .i64 e'.key, e'.val])) (w1.putObj r (it mb ck (vis ++ [e']))) := by
      rw [he, hx, Sem.run_bind, hrun]
      have e1 : it mb ck (vis ++ [e']) = .mapIter (some mb) ck ((vis.map En.born).toArray.push (toE e').born) ck := by simp [it, toE]
      rw [e1]; rfl
    unfold Step; rw [h]
    refine kT e' _ he' (by simpa [toE] using hno) ?_
    exact hI1.turn (i := ix) hL rfl rfl rfl (by rw [World.putObj_size]; exact Nat.le_refl _) (fun k _ hk => World.putObj_heap_other fun e => hk (by rw [e])) (fun b hb => by
      injection hb with hb; subst hb; exact World.putObj_heap_same (hI1.lt hL))
theorem s_entry (hI : Inv B w0 w L) {x : Operand} {r mb : Nat} {es : List En} {ck : Nat} {vis : List En} {e : En} (ix : Nat) (hx : ev ρ x = .pointer (some ⟨r, 0, none⟩)) (hL : L[ix]? = some (some r, it mb ck (vis ++ [e]))) (hm : w.heap[mb]? = some (mobj es ck)) (ho : MOk es ck) (he : e ∈ es)
    (k : R (.tuple #[.int .i64 e.key, e.val]) w) : Step P ⟨d, .entry x, ty, pos, af, gd⟩ ρ w R := by
  have hr := (hI.has ix r _ hL).1
  refine s_pure _ ?_ k
  have h1 : execOp (ev ρ) ⟨d, .entry x, ty, pos, af, gd⟩ = (do pure (.value (← Instr.entry (ev ρ x)))) := rfl
  have e1 : it mb ck (vis ++ [e]) = .mapIter (some mb) ck ((vis.map En.born).toArray.push (toE e).born) ck := by simp [it, toE]
  rw [e1] at hr
  rw [h1, hx, Sem.run_bind, run_entry_at w r mb ck _ _ ck (toE e) hr hm (by simpa using ⟨e, he, rfl⟩) (by simpa [toE, Function.comp_def] using ho.borns)]
  rfl
end steps
theorem sortI_perm {l m : List Int} (h : l.Perm m) : sortI l = sortI m := by
  have tr : ∀ (a b c : Int), decide (a ≤ b) = true → decide (b ≤ c) = true → decide (a ≤ c) = true := by intro a b c; simp; omega
  have to : ∀ (a b : Int), (decide (a ≤ b) || decide (b ≤ a)) = true := by intro a b; simp; omega
  refine List.Perm.eq_of_pairwise (le := fun a b => decide (a ≤ b) = true) (fun a b _ _ h1 h2 => by simp at h1 h2; omega) (List.pairwise_mergeSort tr to l) (List.pairwise_mergeSort tr to m) ?_
  exact (List.mergeSort_perm l _).trans (h.trans (List.mergeSort_perm m _).symm)
/-- What has been met of a map that is ranged over. -/
structure Vis (es vis : List En) : Prop where
  mem : ∀ e ∈ vis, e ∈ es
  nd : (vis.map En.born).Nodup
theorem Vis.more {es vis : List En} (h : Vis es vis) {e : En} (he : e ∈ es) (hb : e.born ∉ vis.map En.born) : Vis es (vis ++ [e]) := by
  refine ⟨fun x hx => ?_, ?_⟩
  · rcases List.mem_append.1 hx with h1 | h1
    · exact h.mem x h1
    · rw [List.mem_singleton] at h1; rw [h1]; exact he
  · rw [List.map_append, List.nodup_append]
    refine ⟨h.nd, by simp, fun a ha b hb' => ?_⟩
    simp only [List.map_cons, List.map_nil, List.mem_singleton] at hb'
    subst hb'
    intro e'
    subst e'
    exact hb ha
theorem nodup_of_map {α β : Type} {f : α → β} : ∀ {l : List α}, (l.map f).Nodup → l.Nodup
  | [], _ => List.nodup_nil
  | a :: l, h => by
    rw [List.map_cons, List.nodup_cons] at h
    rw [List.nodup_cons]
    exact ⟨fun ha => h.1 (List.mem_map.2 ⟨a, ha, rfl⟩), nodup_of_map h.2⟩
theorem inj_of_nodup {α β : Type} {f : α → β} : ∀ {l : List α}, (l.map f).Nodup → ∀ {x y : α}, x ∈ l → y ∈ l → f x = f y → x = y
  | a :: l, h, x, y, hx, hy, e => by
    rw [List.map_cons, List.nodup_cons] at h
    rcases List.mem_cons.1 hx with h1 | h1 <;> rcases List.mem_cons.1 hy with h2 | h2
    · rw [h1, h2]
    · subst h1; exact absurd (List.mem_map.2 ⟨y, h2, e.symm⟩) h.1
    · subst h2; exact absurd (List.mem_map.2 ⟨x, h1, e⟩) h.1
    · exact inj_of_nodup h.2 h1 h2 e
theorem Vis.perm {es vis : List En} {ck : Nat} (h : Vis es vis) (ho : MOk es ck) (hall : ∀ e ∈ es, e.born ∈ vis.map En.born) : vis.Perm es := by
  refine (List.perm_ext_iff_of_nodup (nodup_of_map h.nd) (nodup_of_map ho.borns)).2 fun a => ⟨h.mem a, fun ha => ?_⟩
  obtain ⟨b, hb, e⟩ := List.mem_map.1 (hall a ha)
  rw [← inj_of_nodup ho.borns (h.mem b hb) ha e]; exact hb
theorem vis_le {es vis : List En} (h : Vis es vis) : vis.length ≤ es.length := (nodup_of_map h.nd).length_le_of_subset (fun x hx => h.mem x hx)
theorem falling_c (w0 : World) (mb ck : Nat) (es : List En) (hmap : w0.heap[mb]? = some (mobj es ck)) (ho : MOk es ck) (hle : es.length ≤ 10000) : Does Tryz.prog 91 [.map (some mb)] w0 fun v w => Gives 1 3 none es.length (flat eInt (sortI (es.map En.key)).reverse) w0 v w := by
 refine calls_of (n := 20) Tryz.func91 rfl Tryz.ntmps91 rfl ?_
 have hI := Inv.start w0
 refine wp_seq (rgn (by kernel_rfl) (pu (.slice none 0 0) (by kernel_rfl) (seq_nil (wp_seq (rgn (by kernel_rfl) (pu (.slice none 0 0) (by kernel_rfl) (seq_nil (wp_seq (wp_seq ?_)))))))))
 refine rgn (by kernel_rfl) (pu (.map (some mb)) (by kernel_rfl) (seq_c (s_range hI Tryz.underlying103 rfl (below_blk hI.below hmap) ?_)))
 intro b1 w hI
 refine seq_nil (wp_block ?_)
 have hI := hI.nilRow 3
 refine wp_loop (fun m ρ w => ∃ (vis : List En) (nn : Nat) (gg : Option Nat) (cc : Nat) (ccl : List Value), Agree ρ [(3, slv gg nn cc), (6, .pointer (some ⟨b1, 0, none⟩))] ∧ Inv none w0 w [(gg, blk ccl 3), (some b1, it mb ck vis)] ∧ (Vis es vis) ∧ (nn = vis.length) ∧ (Row 1 gg (nn) cc ccl (flat eInt (vis.map En.key))) ∧ m = es.length - vis.length) (m := es.length - [].length) ⟨[], 0, none, 0, [], ⟨rfl, rfl, trivial⟩, hI.pickL [0, 1] (by decide) rfl, ⟨fun e he => (by cases he), List.nodup_nil⟩, rfl, (Row.nil_ 1), rfl⟩ ?_
 rintro m ρ w ⟨vis, nn, gg, cc, ccl, hag, hI, hv, hnn, hrr, hm⟩
 obtain ⟨ρ, rfl⟩ := hag.form; clear hag
 have hvl := vis_le hv
 refine wp_seq (rgn (by kernel_rfl) (seq_c (s_next hI 1 rfl rfl (below_blk hI.below hmap) ho ?_ ?_)))
 ·intro e w hmem hnb hI
  refine pu (.bool true) (by kernel_rfl) (seq_nil (wp_seq (wp_condT rfl (wp_skip (wp_block ?_)))))
  refine wp_seq (rgn (by kernel_rfl) (seq_c (s_entry hI 1 rfl rfl (below_blk hI.below hmap) ho hmem ?_)))
  refine pu (iv e.key) (by kernel_rfl) (pu (iv e.key) (by kernel_rfl) (seq_nil (rgn (by kernel_rfl) (pu (slv gg nn cc) (by kernel_rfl) (pu (iv e.key) (by kernel_rfl) (seq_c (s_new hI [iv e.key] 3 (fun b => slv (some b) 1 1) (by kernel_rfl) ?_)))))))
  intro b2 w hI
  refine seq_c (s_app hI Tryz.underlying41 (z := iv 0) (k := 1) (bytes := 8) (by kernel_rfl) rfl rfl 1 rfl rfl hrr [iv e.key] rfl rfl (hI.cells 0 (off := 0) rfl (fun j u h => by rw [Nat.zero_add]; exact h)) (by simp [Value.oneCell']) (by omega) (by omega) ?_)
  intro g3 c4 cl5 w hI r6
  have r6 : Row 1 g3 (nn + 1) c4 cl5 (flat eInt ((vis.map En.key) ++ [e.key])) := r6.snoc _ rfl
  refine pu (slv g3 (nn + 1) c4) (by kernel_rfl) (seq_nil ?_)
  exact ⟨rfl, _, (by have h8 := vis_le (hv.more hmem hnb); simp at h8 ⊢; omega), ⟨vis ++ [e], nn + 1, g3, c4, cl5, ⟨rfl, rfl, trivial⟩, hI.pickL [1, 2] (by decide) rfl, (hv.more hmem hnb), (by simp; omega), (r6.to (by simp) rfl), rfl⟩⟩
 ·intro hall
  refine pu (.bool false) (by kernel_rfl) (seq_nil (wp_seq (wp_condF rfl (wp_exit ?_))))
  refine wp_seq (rgn (by kernel_rfl) (pu (slv gg nn cc) (by kernel_rfl) (seq_c (s_callTurns hI 69 [slv gg nn cc] 0 rfl (by kernel_rfl) (Sort_c _ gg nn cc ccl (vis.map En.key) (hI.hasg 0 rfl) hrr (by omega)) ?_))))
  intro cl7 w hI r8
  have r8 : Row 1 gg (nn) cc cl7 (flat eInt (sortI (vis.map En.key))) := r8
  refine seq_nil (wp_seq (rgn (by kernel_rfl) (pu (slv gg nn cc) (by kernel_rfl) (seq_c (s_callTurns hI 93 [slv gg nn cc] 0 rfl (by kernel_rfl) (ReverseInts_c _ gg nn cc cl7 (sortI (vis.map En.key)) (hI.hasg 0 rfl) r8 (by omega)) ?_)))))
  intro cl9 w hI r10
  have r10 : Row 1 gg (nn) cc cl9 (flat eInt ((sortI (vis.map En.key)).reverse)) := r10
  refine seq_nil (wp_seq (rgn (by kernel_rfl) (pu (slv gg nn cc) (by kernel_rfl) (pu (slv gg nn cc) (by kernel_rfl) (seq_nil (wp_ret ?_))))))
  exact ⟨slv gg nn cc, Ret.r1 rfl rfl, ⟨gg, cc, cl9, (by rw [show nn = es.length from hnn.trans (hv.perm ho hall).length_eq]), hI.pickL [0] (by decide) rfl, r10.to (by rw [sortI_perm ((hv.perm ho hall).map En.key)]) (hnn.trans (hv.perm ho hall).length_eq)⟩⟩

end Go.K.Q

