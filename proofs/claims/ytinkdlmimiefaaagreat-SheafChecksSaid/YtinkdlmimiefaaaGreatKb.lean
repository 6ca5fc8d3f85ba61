/-
  The ground of my own proofs, second part: what a call knows of memory, and the rules of the operations. No condition.
-/
import Derived.Test.YtinkdlmimiefaaaGreatKa
import Derived.Deep.Draws
namespace Go.K
open Go.RowKit

/-- But for the block B (none: for none) nothing that was there has turned. -/
structure But (B : Option Nat) (w w' : World) : Prop where
  os : w'.os = w.os
  tape : w'.tape = w.tape
  output : w'.output = w.output
  size : w.heap.size ≤ w'.heap.size
  block : ∀ k, k < w.heap.size → B ≠ some k → w'.heap[k]? = w.heap[k]?

theorem But.refl (B : Option Nat) (w : World) : But B w w := ⟨rfl, rfl, rfl, Nat.le_refl _, fun _ _ _ => rfl⟩
theorem But.of_below {B : Option Nat} {w w' : World} (h : Below w.heap.size w w') : But B w w' := ⟨h.os, h.tape, h.output, h.size, fun k hk _ => h.block k hk⟩
theorem But.below {w w' : World} (h : But none w w') : Below w.heap.size w w' := ⟨h.os, h.tape, h.output, h.size, fun k hk => h.block k hk (by simp)⟩
theorem But.trans {B : Option Nat} {a b c : World} (h : But B a b) (k : But B b c) : But B a c :=
  ⟨k.os.trans h.os, k.tape.trans h.tape, k.output.trans h.output, Nat.le_trans h.size k.size, fun i hi hB => (k.block i (Nat.lt_of_lt_of_le hi h.size) hB).trans (h.block i hi hB)⟩
theorem But.thenBelow {B : Option Nat} {a b c : World} (h : But B a b) (k : Below b.heap.size b c) : But B a c := h.trans (.of_below k)

/-- What the call knows of memory: of what was there in 'w0' nothing but the block B has turned; the blocks of L, its own (and B, if it is among them), hold what L says, and are different ones. -/
structure Inv (B : Option Nat) (w0 w : World) (L : List (Option Nat × Obj)) : Prop where
  but : But B w0 w
  has : ∀ (i b : Nat) (o : Obj), L[i]? = some (some b, o) → w.heap[b]? = some o ∧ (w0.heap.size ≤ b ∨ B = some b)
  sep : ∀ (i j b c : Nat) (o p : Obj), L[i]? = some (some b, o) → L[j]? = some (some c, p) → i ≠ j → b ≠ c

section inv
variable {B : Option Nat} {w0 w : World} {L : List (Option Nat × Obj)}

theorem Inv.start (w : World) : Inv none w w [] := ⟨But.refl _ _, fun i b o h => (by simp at h), fun i j b c o p h => (by simp at h)⟩
/-- The block that the caller lends. -/
theorem Inv.lent (w : World) (g : Option Nat) (o : Obj) (h : ∀ b, g = some b → w.heap[b]? = some o) : Inv g w w [(g, o)] := by
  refine ⟨But.refl _ _, fun i b p hi => ?_, fun i j b c p q hi hj hij => ?_⟩
  · cases i with
    | zero =>
      simp only [List.getElem?_cons_zero, Option.some.injEq, Prod.mk.injEq] at hi
      obtain ⟨rfl, rfl⟩ := hi
      exact ⟨h b rfl, .inr rfl⟩
    | succ i => simp at hi
  · cases i with
    | zero =>
      cases j with
      | zero => exact absurd rfl hij
      | succ j => simp at hj
    | succ i => simp at hi

theorem Inv.below (h : Inv none w0 w L) : Below w0.heap.size w0 w := h.but.below

theorem Inv.lt (h : Inv B w0 w L) {i b : Nat} {o : Obj} (hi : L[i]? = some (some b, o)) : b < w.heap.size := by
  have := (h.has i b o hi).1
  rcases Nat.lt_or_ge b w.heap.size with hlt | hge
  · exact hlt
  · rw [Array.getElem?_eq_none hge] at this; cases this

/-- A new block of this call's own, below which nothing else has turned. -/
theorem Inv.more (h : Inv B w0 w L) {w' : World} (hb : Below w.heap.size w w') {g : Option Nat} {o : Obj} (hg : ∀ b, g = some b → w.heap.size ≤ b ∧ w'.heap[b]? = some o) : Inv B w0 w' ((g, o) :: L) := by
  refine ⟨h.but.thenBelow hb, fun i b p hi => ?_, fun i j b c p q hi hj hij => ?_⟩
  · cases i with
    | zero =>
      simp only [List.getElem?_cons_zero, Option.some.injEq, Prod.mk.injEq] at hi
      obtain ⟨rfl, rfl⟩ := hi
      exact ⟨(hg b rfl).2, .inl (Nat.le_trans h.but.size (hg b rfl).1)⟩
    | succ i =>
      simp only [List.getElem?_cons_succ] at hi
      exact ⟨(hb.block b (h.lt hi)).trans (h.has i b p hi).1, (h.has i b p hi).2⟩
  · cases i with
    | zero =>
      simp only [List.getElem?_cons_zero, Option.some.injEq, Prod.mk.injEq] at hi
      obtain ⟨rfl, rfl⟩ := hi
      cases j with
      | zero => exact absurd rfl hij
      | succ j =>
        simp only [List.getElem?_cons_succ] at hj
        have h1 := (hg b rfl).1
        have h2 := h.lt hj
        omega
    | succ i =>
      simp only [List.getElem?_cons_succ] at hi
      cases j with
      | zero =>
        simp only [List.getElem?_cons_zero, Option.some.injEq, Prod.mk.injEq] at hj
        obtain ⟨rfl, rfl⟩ := hj
        have h1 := (hg c rfl).1
        have h2 := h.lt hi
        omega
      | succ j =>
        simp only [List.getElem?_cons_succ] at hj
        exact h.sep i j b c p q hi hj (by omega)

theorem Inv.call (h : Inv B w0 w L) {w' : World} (hb : Below w.heap.size w w') : Inv B w0 w' L :=
  ⟨h.but.thenBelow hb, fun i b o hi => ⟨(hb.block b (h.lt hi)).trans (h.has i b o hi).1, (h.has i b o hi).2⟩, h.sep⟩

theorem Inv.alloc (h : Inv B w0 w L) (o : Obj) : Inv B w0 (w.alloc o) ((some w.heap.size, o) :: L) :=
  h.more ((Below.refl _ w).alloc (Nat.le_refl _) o) fun b hb => by
    injection hb with hb
    subst hb
    exact ⟨Nat.le_refl _, by rw [heap_alloc_new]⟩

theorem Inv.drew (h : Inv B w0 w L) : Inv B w0 w.drew L := ⟨⟨h.but.os, h.but.tape, h.but.output, h.but.size, h.but.block⟩, h.has, h.sep⟩

/-- The block at place i has become another one, all else stands. -/
theorem Inv.turn (h : Inv B w0 w L) {w' : World} {i : Nat} {g : Option Nat} {o : Obj} (hi : L[i]? = some (g, o)) {o' : Obj}
    (hos : w'.os = w.os) (htape : w'.tape = w.tape) (hout : w'.output = w.output) (hsize : w.heap.size ≤ w'.heap.size)
    (hkeep : ∀ k, k < w.heap.size → g ≠ some k → w'.heap[k]? = w.heap[k]?) (hnew : ∀ b, g = some b → w'.heap[b]? = some o') : Inv B w0 w' (L.set i (g, o')) := by
  have hlen : i < L.length := by
    rcases Nat.lt_or_ge i L.length with hlt | hge
    · exact hlt
    · rw [List.getElem?_eq_none hge] at hi; cases hi
  refine ⟨⟨hos.trans h.but.os, htape.trans h.but.tape, hout.trans h.but.output, Nat.le_trans h.but.size hsize, fun k hk hB => ?_⟩, fun j b p hj => ?_, fun j k b c p q hj hk hjk => ?_⟩
  · rw [hkeep k (Nat.lt_of_lt_of_le hk h.but.size) ?_, h.but.block k hk hB]
    intro hg
    subst hg
    rcases (h.has i k o hi).2 with h1 | h1
    · omega
    · exact hB h1
  · rw [List.getElem?_set] at hj
    by_cases hji : i = j
    · subst hji
      simp only [if_true, hlen, Option.some.injEq, Prod.mk.injEq] at hj
      obtain ⟨rfl, rfl⟩ := hj
      exact ⟨hnew b rfl, (h.has i b o hi).2⟩
    · rw [if_neg hji] at hj
      refine ⟨(hkeep b (h.lt hj) ?_).trans (h.has j b p hj).1, (h.has j b p hj).2⟩
      intro hg
      subst hg
      exact h.sep i j b b o p hi hj hji rfl
  · have old : ∀ (j b : Nat) (p : Obj), (L.set i (g, o'))[j]? = some (some b, p) → ∃ q, L[j]? = some (some b, q) := by
      intro j b p hj
      rw [List.getElem?_set] at hj
      by_cases hji : i = j
      · subst hji
        simp only [if_true, hlen, Option.some.injEq, Prod.mk.injEq] at hj
        obtain ⟨rfl, rfl⟩ := hj
        exact ⟨o, hi⟩
      · rw [if_neg hji] at hj; exact ⟨p, hj⟩
    obtain ⟨p', hj'⟩ := old j b p hj
    obtain ⟨q', hk'⟩ := old k c q hk
    exact h.sep j k b c p' q' hj' hk' hjk

/-- A call that turned the block that it was lent. -/
theorem Inv.turned (h : Inv B w0 w L) {w' : World} (i : Nat) {g : Option Nat} {o o' : Obj} (hi : L[i]? = some (g, o)) (hb : But g w w') (hnew : ∀ b, g = some b → w'.heap[b]? = some o') : Inv B w0 w' (L.set i (g, o')) :=
  h.turn hi hb.os hb.tape hb.output hb.size hb.block hnew

/-- Forget what is not needed any more; take what is left in another order. -/
theorem Inv.pick (h : Inv B w0 w L) (l : List Nat) (hn : l.Nodup) {L' : List (Option Nat × Obj)} (hL : ∀ (i : Nat) x, L'[i]? = some x → ∃ j, l[i]? = some j ∧ L[j]? = some x) : Inv B w0 w L' :=
  ⟨h.but, fun i b o hi => (by obtain ⟨j, _, hj⟩ := hL i _ hi; exact h.has j b o hj), fun i j b c o p hi hj hij => (by
    obtain ⟨i', hi1, hi2⟩ := hL i _ hi
    obtain ⟨j', hj1, hj2⟩ := hL j _ hj
    refine h.sep i' j' b c o p hi2 hj2 ?_
    intro he
    subst he
    have h1 : i < l.length := by
      rcases Nat.lt_or_ge i l.length with hlt | hge
      · exact hlt
      · rw [List.getElem?_eq_none hge] at hi1; cases hi1
    have h2 : j < l.length := by
      rcases Nat.lt_or_ge j l.length with hlt | hge
      · exact hlt
      · rw [List.getElem?_eq_none hge] at hj1; cases hj1
    rw [List.getElem?_eq_getElem h1] at hi1
    rw [List.getElem?_eq_getElem h2] at hj1
    injection hi1 with hi1
    injection hj1 with hj1
    exact hij ((List.getElem_inj hn).1 (hi1.trans hj1.symm)))⟩

theorem Inv.tail {x : Option Nat × Obj} (h : Inv B w0 w (x :: L)) : Inv B w0 w L :=
  ⟨h.but, fun i b o hi => h.has (i + 1) b o hi, fun i j b c o p hi hj hij => h.sep (i + 1) (j + 1) b c o p hi hj (by omega)⟩
end inv

/-- A block of cells, none of them frozen. -/
abbrev blk (cl : List Value) (T : TypeId) : Obj := .cells cl.toArray T (0, 0)

section steps
variable {P : Program} {ρ : Env} {B : Option Nat} {w w0 : World} {L : List (Option Nat × Obj)} {R : Value → World → Prop} {d : Option Nat} {ty : TypeId} {pos : String} {af : Array Edge} {gd : Option (Nat × Bool)}

/-- An operation that leaves the world alone: what it comes to is found by reckoning. -/
theorem s_pure {o : Oper} (v : Value) (h : (execOp (ev ρ) o).run P w = .ok (.value v) w) (k : R v w) : Step P o ρ w R := by
  unfold Step; rw [h]; exact k

theorem s_move {x : Operand} (k : R (ev ρ x) w) : Step P ⟨d, .move x, ty, pos, af, gd⟩ ρ w R := k
theorem s_assign {x : Operand} (k : R (ev ρ x) w) : Step P ⟨d, .assign x, ty, pos, af, gd⟩ ρ w R := k

theorem s_box {T : TypeId} {x : Operand} (k : R (.pointer (some ⟨w.heap.size, 0, none⟩)) (w.alloc (.cells (ev ρ x).cells T))) : Step P ⟨d, .box T x, ty, pos, af, gd⟩ ρ w R := k

theorem s_boxI (hI : Inv B w0 w L) {T : TypeId} {x : Operand} (cl : List Value) (hc : (ev ρ x).cells = cl.toArray) (k : ∀ (b : Nat) (w' : World), Inv B w0 w' ((some b, blk cl T) :: L) → R (.pointer (some ⟨b, 0, none⟩)) w') :
    Step P ⟨d, .box T x, ty, pos, af, gd⟩ ρ w R := s_box (k _ _ (hc ▸ hI.alloc _))

theorem s_allocI (hI : Inv B w0 w L) {T : TypeId} {z : Value} (cl : List Value) (hz : ∀ w, (zeroValue T).run P w = .ok z w) (hc : z.cells = cl.toArray) (k : ∀ (b : Nat) (w' : World), Inv B w0 w' ((some b, blk cl T) :: L) → R (.pointer (some ⟨b, 0, none⟩)) w') :
    Step P ⟨d, .alloc T, ty, pos, af, gd⟩ ρ w R := by
  have h : (execOp (ev ρ) ⟨d, .alloc T, ty, pos, af, gd⟩).run P w = .ok (.value (.pointer (some ⟨w.heap.size, 0, none⟩))) (w.alloc (.cells z.cells T)) := by
    simp [execOp, Instr.alloc, go_sem, hz]
  unfold Step; rw [h]; exact k _ _ (hc ▸ hI.alloc _)

theorem run_load_cell {a : Addr} {v : Value} (h : w.cell? a = some v) {T : TypeId} (hA : ∀ w, (isAgg T).run P w = .ok false w) : (loadVar T a).run P w = .ok v w := by
  simp [loadVar, go_sem, hA, h]

theorem run_loadCells (a : Addr) : ∀ (vs : List Value) (i : Nat) (acc : Array Value), (∀ j v, vs[j]? = some v → w.cell? (a.add (i + j)) = some v) →
    (loadCellsFrom a i vs.length acc).run P w = .ok (acc ++ vs.toArray) w
  | [], i, acc, _ => by simp [loadCellsFrom, go_sem]
  | v :: vs, i, acc, h => by
    have h0 : w.cell? (a.add i) = some v := h 0 v rfl
    have ih := run_loadCells a vs (i + 1) (acc.push v) (fun j u hj => by have := h (j + 1) u hj; rwa [show i + (j + 1) = i + 1 + j by omega] at this)
    show (load (a.add i) >>= fun u => loadCellsFrom a (i + 1) vs.length (acc.push u)).run P w = _
    rw [Sem.run_bind, run_load, h0]
    show (loadCellsFrom a (i + 1) vs.length (acc.push v)).run P w = _
    rw [ih]
    simp

theorem run_load_agg {a : Addr} {vs : List Value} {k : Nat} {T : TypeId} (hA : ∀ w, (isAgg T).run P w = .ok true w) (hS : ∀ w, (Go.sizeOf T).run P w = .ok k w) (hk : vs.length = k)
    (h : ∀ j v, vs[j]? = some v → w.cell? (a.add j) = some v) : (loadVar T a).run P w = .ok (.agg vs.toArray) w := by
  subst hk
  have := run_loadCells (P := P) (w := w) a vs 0 #[] (fun j v hj => by rw [Nat.zero_add]; exact h j v hj)
  simp [loadVar, go_sem, hA, hS, loadCells, this]

theorem s_load {T : TypeId} {x : Operand} {a : Addr} {v : Value} (ha : ev ρ x = .pointer (some a)) (hl : (loadVar T a).run P w = .ok v w) (k : R v w) : Step P ⟨d, .load T x, ty, pos, af, gd⟩ ρ w R := by
  have h : (execOp (ev ρ) ⟨d, .load T x, ty, pos, af, gd⟩).run P w = .ok (.value v) w := by
    have : execOp (ev ρ) ⟨d, .load T x, ty, pos, af, gd⟩ = (do pure (.value (← Instr.loadAt T (ev ρ x)))) := rfl
    rw [this, ha]
    show ((loadVar T a >>= fun v => pure (Next.value v)).run P w) = _
    rw [Sem.run_bind, hl]
    rfl
  exact s_pure v h k

theorem Inv.cell (hI : Inv B w0 w L) {i b off : Nat} {cs : Array Value} {T : TypeId} {fr : Nat × Nat} {v : Value} (hi : L[i]? = some (some b, .cells cs T fr)) (hc : cs[off]? = some v) : w.cell? ⟨b, off, none⟩ = some v := by
  have := (hI.has i b _ hi).1
  simp [World.cell?, this, hc]

theorem add_lit (b off n : Nat) : (Addr.mk b off none).add n = ⟨b, off + n, none⟩ := by
  unfold Addr.add; split <;> simp_all

/-- A load of one cell out of a block of the call's own. -/
theorem s_load1 (hI : Inv B w0 w L) {T : TypeId} {x : Operand} (i : Nat) {b off : Nat} {cl : List Value} {T' : TypeId} (v : Value) (hA : ∀ w, (isAgg T).run P w = .ok false w)
    (ha : ev ρ x = .pointer (some ⟨b, off, none⟩)) (hi : L[i]? = some (some b, blk cl T')) (hc : cl[off]? = some v) (k : R v w) : Step P ⟨d, .load T x, ty, pos, af, gd⟩ ρ w R :=
  s_load ha (run_load_cell (hI.cell hi (by simpa using hc)) hA) k

/-- A load of a struct out of a block of the call's own. -/
theorem run_loadK (hI : Inv B w0 w L) {T : TypeId} (i n : Nat) {b off : Nat} {cl : List Value} {T' : TypeId} (vs : List Value) (hA : ∀ w, (isAgg T).run P w = .ok true w) (hS : ∀ w, (Go.sizeOf T).run P w = .ok n w)
    (hi : L[i]? = some (some b, blk cl T')) (hc : (cl.drop off).take n = vs) (hn : vs.length = n) : (loadVar T ⟨b, off, none⟩).run P w = .ok (.agg vs.toArray) w :=
  run_load_agg hA hS hn fun j v hj => by
    rw [add_lit]
    refine hI.cell hi ?_
    subst hc
    have hl : j < n := by
      rcases Nat.lt_or_ge j n with hlt | hge
      · exact hlt
      · rw [List.getElem?_eq_none (by rw [hn]; exact hge)] at hj; cases hj
    rw [List.getElem?_take, if_pos hl, List.getElem?_drop] at hj
    simpa using hj

theorem s_loadK (hI : Inv B w0 w L) {T : TypeId} {x : Operand} (i n : Nat) {b off : Nat} {cl : List Value} {T' : TypeId} (vs : List Value) (hA : ∀ w, (isAgg T).run P w = .ok true w) (hS : ∀ w, (Go.sizeOf T).run P w = .ok n w)
    (ha : ev ρ x = .pointer (some ⟨b, off, none⟩)) (hi : L[i]? = some (some b, blk cl T')) (hc : (cl.drop off).take n = vs) (hn : vs.length = n) (k : R (.agg vs.toArray) w) : Step P ⟨d, .load T x, ty, pos, af, gd⟩ ρ w R :=
  s_load ha (run_loadK hI i n vs hA hS hi hc hn) k

/-- Cells, one after the other, written from 'off' on. -/
def putCells (cl : List Value) (off : Nat) : List Value → List Value
  | [] => cl
  | v :: vs => putCells (cl.set off v) (off + 1) vs

theorem run_storeCells {b : Nat} {T : TypeId} : ∀ (vs : List Value) (ao i : Nat) (w : World) (cl : List Value), w.heap[b]? = some (blk cl T) → ao + i + vs.length ≤ cl.length → (∀ v ∈ vs, v.oneCell' = true) →
    ∃ w', (storeCells ⟨b, ao, none⟩ vs i).run P w = .ok () w' ∧ w'.os = w.os ∧ w'.tape = w.tape ∧ w'.output = w.output ∧ w'.heap.size = w.heap.size ∧ (∀ k, k ≠ b → w'.heap[k]? = w.heap[k]?) ∧ w'.heap[b]? = some (blk (putCells cl (ao + i) vs) T)
  | [], ao, i, w, cl, hb, _, _ => ⟨w, by simp [storeCells], rfl, rfl, rfl, rfl, fun _ _ => rfl, hb⟩
  | v :: vs, ao, i, w, cl, hb, hs, h1 => by
    simp only [List.length_cons] at hs
    have hcell : ∃ u, w.cell? ⟨b, ao + i, none⟩ = some u := by
      simp only [World.cell?, hb]
      exact ⟨cl[ao + i]'(by omega), by simp [List.getElem?_eq_getElem (show ao + i < cl.length by omega)]⟩
    obtain ⟨u, hu⟩ := hcell
    have hfr : w.frozen? ⟨b, ao + i, none⟩ = false := by simp [World.frozen?, hb]
    have hv := h1 v (by simp)
    have hb' : (w.setCell ⟨b, ao + i, none⟩ v).heap[b]? = some (blk (cl.set (ao + i) v) T) := by
      simp [World.setCell, Array.getElem?_modify, hb]
    obtain ⟨w', hrun, e1, e2, e3, e4, e5, e6⟩ := run_storeCells vs ao (i + 1) (w.setCell ⟨b, ao + i, none⟩ v) (cl.set (ao + i) v) hb' (by simp; omega) (fun v' hv' => h1 v' (by simp [hv']))
    refine ⟨w', ?_, e1, e2, e3, by rw [e4]; simp [World.setCell], fun k hk => ?_, ?_⟩
    · have hst : (store (Addr.mk b (ao + i) none) v).run P w = .ok () (w.setCell ⟨b, ao + i, none⟩ v) := by
        rw [run_store P w _ v _ hv, hu]
        simp only [hfr, Bool.false_eq_true, if_false]
      show (store ((Addr.mk b ao none).add i) v >>= fun _ => storeCells ⟨b, ao, none⟩ vs (i + 1)).run P w = _
      rw [add_lit, Sem.run_bind, hst]
      exact hrun
    · rw [e5 k hk]; exact Below.heap_setCell _ _ _ _ hk
    · rw [e6]; rfl

theorem run_storeVar {T : TypeId} {b off : Nat} {v : Value} {n : Nat} {T' : TypeId} {vs cl : List Value} (hS : ∀ w, (Go.sizeOf T).run P w = .ok n w) (hv : v.cells = vs.toArray) (hn : vs.length = n) (h1 : vs.all Value.oneCell' = true)
    (hb : w.heap[b]? = some (blk cl T')) (hs : off + n ≤ cl.length) :
    ∃ w', (storeVar T ⟨b, off, none⟩ v).run P w = .ok () w' ∧ w'.os = w.os ∧ w'.tape = w.tape ∧ w'.output = w.output ∧ w'.heap.size = w.heap.size ∧ (∀ k, k ≠ b → w'.heap[k]? = w.heap[k]?) ∧ w'.heap[b]? = some (blk (putCells cl off vs) T') := by
  subst hn
  obtain ⟨w', hrun, e1, e2, e3, e4, e5, e6⟩ := run_storeCells (P := P) vs off 0 w cl hb (by simpa using hs) (fun v hv' => by simpa using (List.all_eq_true.1 h1) v hv')
  refine ⟨w', ?_, e1, e2, e3, e4, e5, by simpa using e6⟩
  unfold storeVar
  rw [Sem.run_bind, hS]
  simp only [Result.andThen_ok, hv, List.size_toArray, ne_eq, not_true_eq_false, if_false]
  exact hrun

theorem s_store (hI : Inv B w0 w L) {T : TypeId} {x y : Operand} (i n : Nat) {b off : Nat} {cl : List Value} {T' : TypeId} (vs : List Value) (hS : ∀ w, (Go.sizeOf T).run P w = .ok n w)
    (ha : ev ρ x = .pointer (some ⟨b, off, none⟩)) (hv : (ev ρ y).cells = vs.toArray) (hn : vs.length = n) (h1 : vs.all Value.oneCell' = true) (hi : L[i]? = some (some b, blk cl T')) (hs : off + n ≤ cl.length)
    (k : ∀ w', Inv B w0 w' (L.set i (some b, blk (putCells cl off vs) T')) → R undef w') : Step P ⟨d, .store T x y, ty, pos, af, gd⟩ ρ w R := by
  obtain ⟨w', hrun, e1, e2, e3, e4, e5, e6⟩ := run_storeVar (P := P) hS hv hn h1 (hI.has i b _ hi).1 hs
  have h : (execOp (ev ρ) ⟨d, .store T x y, ty, pos, af, gd⟩).run P w = .ok .skip w' := by
    have : execOp (ev ρ) ⟨d, .store T x y, ty, pos, af, gd⟩ = (do Instr.storeAt T (ev ρ x) (ev ρ y); pure .skip) := rfl
    rw [this, ha]
    show ((storeVar T ⟨b, off, none⟩ (ev ρ y) >>= fun _ => pure Next.skip).run P w) = _
    rw [Sem.run_bind, hrun]
    rfl
  unfold Step; rw [h]
  exact k w' (hI.turn hi e1 e2 e3 (by omega) (fun k hk hg => e5 k fun he => hg (by rw [he])) (fun b' hb' => by injection hb' with hb'; subst hb'; exact e6))

/-- Arithmetic that fits. -/
theorem wrap_in {n : Int} (h1 : -9223372036854775808 ≤ n) (h2 : n ≤ 9223372036854775807) : IntKind.i64.wrap n = n := IntWalk.i64_in n ⟨h1, h2⟩

theorem s_add {T Ty : TypeId} {x y : Operand} {a b : Int} (ha : ev ρ x = .int .i64 a) (hb : ev ρ y = .int .i64 b) (h : -9223372036854775808 ≤ a + b ∧ a + b ≤ 9223372036854775807) (k : R (.int .i64 (a + b)) w) :
    Step P ⟨d, .binOp .add T x y Ty, ty, pos, af, gd⟩ ρ w R := by
  refine s_pure (.int .i64 (a + b)) ?_ k
  have : execOp (ev ρ) ⟨d, .binOp .add T x y Ty, ty, pos, af, gd⟩ = (do pure (.value (← (do eqGuard .add T x y (ev ρ x) (ev ρ y); binOp .add T (ev ρ x) (ev ρ y))))) := rfl
  rw [this, ha, hb, ← wrap_in h.1 h.2]
  rfl
theorem s_sub {T Ty : TypeId} {x y : Operand} {a b : Int} (ha : ev ρ x = .int .i64 a) (hb : ev ρ y = .int .i64 b) (h : -9223372036854775808 ≤ a - b ∧ a - b ≤ 9223372036854775807) (k : R (.int .i64 (a - b)) w) :
    Step P ⟨d, .binOp .sub T x y Ty, ty, pos, af, gd⟩ ρ w R := by
  refine s_pure (.int .i64 (a - b)) ?_ k
  have : execOp (ev ρ) ⟨d, .binOp .sub T x y Ty, ty, pos, af, gd⟩ = (do pure (.value (← (do eqGuard .sub T x y (ev ρ x) (ev ρ y); binOp .sub T (ev ρ x) (ev ρ y))))) := rfl
  rw [this, ha, hb, ← wrap_in h.1 h.2]
  rfl
theorem s_mul {T Ty : TypeId} {x y : Operand} {a b : Int} (ha : ev ρ x = .int .i64 a) (hb : ev ρ y = .int .i64 b) (h : -9223372036854775808 ≤ a * b ∧ a * b ≤ 9223372036854775807) (k : R (.int .i64 (a * b)) w) :
    Step P ⟨d, .binOp .mul T x y Ty, ty, pos, af, gd⟩ ρ w R := by
  refine s_pure (.int .i64 (a * b)) ?_ k
  have : execOp (ev ρ) ⟨d, .binOp .mul T x y Ty, ty, pos, af, gd⟩ = (do pure (.value (← (do eqGuard .mul T x y (ev ρ x) (ev ρ y); binOp .mul T (ev ρ x) (ev ρ y))))) := rfl
  rw [this, ha, hb, ← wrap_in h.1 h.2]
  rfl

/-- What a call returns, and the world behind it. -/
def Does (P : Program) (f : FuncId) (args : List Value) (w : World) (R : Value → World → Prop) : Prop := Calls P f args.toArray w (fun e w' => ∃ v, e = .returned v ∧ R v w')

theorem Does.mono {f : FuncId} {args : List Value} {R' : Value → World → Prop} (h : Does P f args w R) (hr : ∀ v w', R v w' → R' v w') : Does P f args w R' :=
  Calls.mono h fun _ _ ⟨v, he, hv⟩ => ⟨v, he, hr _ _ hv⟩

theorem s_call {o : Oper} (f : FuncId) (args : List Value) {R' : Value → World → Prop} (h : (execOp (ev ρ) o).run P w = .ok (.enter f args.toArray) w) (hc : Does P f args w R') (k : ∀ v w', R' v w' → R v w') : Step P o ρ w R := by
  unfold Step; rw [h]; exact hc.mono k

/-- A call that returns plain data and leaves what was there as it was. -/
theorem s_callv (hI : Inv B w0 w L) {o : Oper} (f : FuncId) (args : List Value) (v : Value) (h : (execOp (ev ρ) o).run P w = .ok (.enter f args.toArray) w) (hc : Does P f args w fun v' w' => v' = v ∧ Below w.heap.size w w')
    (k : ∀ w', Inv B w0 w' L → R v w') : Step P o ρ w R :=
  s_call f args h hc fun v' w' ⟨hv, hb⟩ => by subst hv; exact k w' (hI.call hb)

/-- The call of a function value. -/
def CallV (P : Program) (fv : Value) (args : List Value) (w : World) (R : Value → World → Prop) : Prop :=
  match ((do let d ← Deferred.ofValue fv args.toArray; invoke d.target d.args : Sem Next)).run P w with
  | .ok (.value v) w' => R v w'
  | .ok .skip w' => R undef w'
  | .ok (.enter f args) w' => Calls P f args w' (fun e w'' => ∃ v, e = .returned v ∧ R v w'')
  | .ok (.round l f tmps assign body) w' => RoundIn Fence.wide 0 P l f tmps assign body w' (fun e w'' => ∃ v, e = .returned v ∧ R v w'')
  | _ => False

theorem CallV.mono {fv : Value} {args : List Value} {R' : Value → World → Prop} (h : CallV P fv args w R) (hr : ∀ v w', R v w' → R' v w') : CallV P fv args w R' := by
  unfold CallV at *
  generalize Sem.run P _ w = r at *
  cases r with
  | ok x w' =>
    cases x with
    | value v => exact hr _ _ h
    | skip => exact hr _ _ h
    | enter f args => exact Calls.mono h fun e w'' ⟨v, he, hv⟩ => ⟨v, he, hr _ _ hv⟩
    | round l f tmps assign body => exact RoundIn.mono h fun e w'' ⟨v, he, hv⟩ => ⟨v, he, hr _ _ hv⟩
    | _ => exact h
  | halt x w' => exact h

theorem CallV.of {fv : Value} {args args' : List Value} {f : FuncId} (h : ((do let d ← Deferred.ofValue fv args.toArray; invoke d.target d.args : Sem Next)).run P w = .ok (.enter f args'.toArray) w) (hc : Does P f args' w R) : CallV P fv args w R := by
  unfold CallV; rw [h]; exact hc

theorem s_callV {x : Operand} {as : Array Operand} {ats : Array TypeId} (args : List Value) {fv : Value} {R' : Value → World → Prop} (hf : ev ρ x = fv) (ha : as.map (ev ρ) = args.toArray) (hc : CallV P fv args w R') (k : ∀ v w', R' v w' → R v w') :
    Step P ⟨d, .call ⟨.value x, as, ats⟩, ty, pos, af, gd⟩ ρ w R := by
  have h := hc.mono k
  unfold CallV at h
  unfold Step
  have : execOp (ev ρ) ⟨d, .call ⟨.value x, as, ats⟩, ty, pos, af, gd⟩ = (do let d ← Deferred.ofValue (ev ρ x) (as.map (ev ρ)); invoke d.target d.args) := rfl
  rw [this, hf, ha]
  exact h

theorem seq_nil {ops : Array Oper} {K : Env → World → Prop} (h : K ρ w) : Seq P ops K [] ρ w := h
theorem seq_c {ops : Array Oper} {K : Env → World → Prop} {rest : List Oper} {op : Op} (h : Step P ⟨d, op, ty, pos, af, none⟩ ρ w (fun v w' => Seq P ops K rest (updO ρ d v) w')) : Seq P ops K (⟨d, op, ty, pos, af, none⟩ :: rest) ρ w := h
theorem seq_on {ops : Array Oper} {K : Env → World → Prop} {rest : List Oper} {op : Op} {j : Nat} {b : Bool} (hy : yieldE ops ρ j = some b)
    (h : Step P ⟨d, op, ty, pos, af, some (j, b)⟩ ρ w (fun v w' => Seq P ops K rest (updO ρ d v) w')) : Seq P ops K (⟨d, op, ty, pos, af, some (j, b)⟩ :: rest) ρ w := by
  unfold Seq
  have : Region.wanted ⟨d, op, ty, pos, af, some (j, b)⟩ (yieldE ops ρ) = true := by simp [Region.wanted, hy]
  rw [this]; exact h
theorem seq_off {ops : Array Oper} {K : Env → World → Prop} {rest : List Oper} {op : Op} {j : Nat} {b : Bool} (hy : yieldE ops ρ j = some (!b))
    (h : Seq P ops K rest (updO ρ d undef) w) : Seq P ops K (⟨d, op, ty, pos, af, some (j, b)⟩ :: rest) ρ w := by
  unfold Seq
  have : Region.wanted ⟨d, op, ty, pos, af, some (j, b)⟩ (yieldE ops ρ) = false := by
    cases b <;> simp [Region.wanted, hy]
  rw [this]; exact h
end steps
end Go.K
