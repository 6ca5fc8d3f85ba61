/-
  The ground of my own proofs, ninth part: a block that is lent to a call. No condition.
-/
import Derived.Test.YtinkdlmimiefaaaGreatKh
namespace Go.K
open Go.RowKit

/-- The cells of a slice that does not lie in the block B. -/
def CellsB (B : Option Nat) (w : World) (A : Option Addr) (xs : List Value) : Prop := 0 < xs.length → ∃ b off, A = some ⟨b, off, none⟩ ∧ b < w.heap.size ∧ B ≠ some b ∧ ∀ j u, xs[j]? = some u → w.cell? ⟨b, off + j, none⟩ = some u
theorem CellsB.cells {B : Option Nat} {w : World} {A : Option Addr} {xs : List Value} (h : CellsB B w A xs) : Cells w A xs := fun hx => by
  obtain ⟨b, off, h1, h2, _, h4⟩ := h hx
  exact ⟨b, off, h1, h2, h4⟩
theorem CellsB.none_ {w : World} {A : Option Addr} {xs : List Value} (h : Cells w A xs) : CellsB none w A xs := fun hx => by
  obtain ⟨b, off, h1, h2, h4⟩ := h hx
  exact ⟨b, off, h1, h2, by simp, h4⟩
theorem CellsB.inv {B : Option Nat} {w0 w : World} {L : List (Option Nat × Obj)} {A : Option Addr} {xs : List Value} (h : CellsB B w0 A xs) (hI : Inv B w0 w L) : CellsB B w A xs := fun hx => by
  obtain ⟨b, off, hA, hlt, hB, hc⟩ := h hx
  refine ⟨b, off, hA, Nat.lt_of_lt_of_le hlt hI.but.size, hB, fun j u hj => ?_⟩
  have := hI.but.block b hlt hB
  rw [← hc j u hj]
  simp [World.cell?, this]

section lent
variable {B : Option Nat} {w0 w w' : World} {L N : List (Option Nat × Obj)}
theorem Inv.hasg (h : Inv B w0 w L) (i : Nat) {g : Option Nat} {o : Obj} (hi : L[i]? = some (g, o)) : ∀ b, g = some b → w.heap[b]? = some o := fun b hb => by subst hb; exact (h.has i b o hi).1
/-- What was there before the call lies apart from a block of the call's own. -/
theorem Inv.apartBase (h : Inv none w0 w L) (i : Nat) {g : Option Nat} {o : Obj} (hi : L[i]? = some (g, o)) {A : Option Addr} {xs : List Value} (hC : Cells w0 A xs) : CellsB g w A xs := fun hx => by
  obtain ⟨b, off, hA, hlt, hc⟩ := hC hx
  refine ⟨b, off, hA, Nat.lt_of_lt_of_le hlt h.below.size, ?_, fun j u hj => (h.below.cell (p := ⟨b, off + j, none⟩) hlt).trans (hc j u hj)⟩
  rintro rfl
  rcases (h.has i b o hi).2 with h1 | h1
  · omega
  · cases h1
theorem Inv.apartRow (h : Inv B w0 w L) (i j : Nat) (hij : i ≠ j) {g : Option Nat} {o : Obj} (hi : L[i]? = some (g, o)) {g2 : Option Nat} {o2 : Obj} (hj : L[j]? = some (g2, o2)) {xs : List Value} (hC : Cells w (g2.map fun b => ⟨b, 0, none⟩) xs) : CellsB g w (g2.map fun b => ⟨b, 0, none⟩) xs := fun hx => by
  obtain ⟨b, off, hA, hlt, hc⟩ := hC hx
  refine ⟨b, off, hA, hlt, ?_, hc⟩
  rintro rfl
  cases g2 with
  | none => cases hA
  | some c =>
    simp only [Option.map_some, Option.some.injEq, Addr.mk.injEq] at hA
    exact h.sep i j b c o o2 hi hj hij hA.1.symm

/-- A call that was lent the block at place i, and hands back blocks that are new, or that one. -/
theorem Inv.back (h : Inv B w0 w L) (i : Nat) {g : Option Nat} {o : Obj} (hi : L[i]? = some (g, o)) (hN : Inv g w w' N) : Inv B w0 w' (N ++ L.set i (none, o)) := by
  have keep : ∀ k, k < w.heap.size → g ≠ some k → w'.heap[k]? = w.heap[k]? := hN.but.block
  have inL : ∀ (j b : Nat) (p : Obj), (L.set i (none, o))[j]? = some (some b, p) → j ≠ i ∧ L[j]? = some (some b, p) := by
    intro j b p hj
    rw [List.getElem?_set] at hj
    by_cases e : i = j
    · subst e
      split at hj
      · split at hj
        · cases hj
        · cases hj
      · contradiction
    · rw [if_neg e] at hj; exact ⟨fun h => e h.symm, hj⟩
  have neg : ∀ (j b : Nat) (p : Obj), j ≠ i → L[j]? = some (some b, p) → g ≠ some b := fun j b p hji hj hg => by
    subst hg
    exact h.sep i j b b o p hi hj (Ne.symm hji) rfl
  have old : ∀ (j b : Nat) (p : Obj), (N ++ L.set i (none, o))[j]? = some (some b, p) → (j < N.length ∧ N[j]? = some (some b, p)) ∨ (N.length ≤ j ∧ (L.set i (none, o))[j - N.length]? = some (some b, p)) := by
    intro j b p hj
    rcases Nat.lt_or_ge j N.length with hlt | hge
    · exact .inl ⟨hlt, by rwa [List.getElem?_append_left hlt] at hj⟩
    · exact .inr ⟨hge, by rwa [List.getElem?_append_right hge] at hj⟩
  refine ⟨⟨hN.but.os.trans h.but.os, hN.but.tape.trans h.but.tape, hN.but.output.trans h.but.output, Nat.le_trans h.but.size hN.but.size, fun k hk hB => ?_⟩, fun j b p hj => ?_, fun j k b c p q hj hk hjk => ?_⟩
  · rw [keep k (Nat.lt_of_lt_of_le hk h.but.size) ?_, h.but.block k hk hB]
    intro hg
    subst hg
    rcases (h.has i k o hi).2 with h1 | h1
    · omega
    · exact hB h1
  · rcases old j b p hj with ⟨_, h1⟩ | ⟨_, h1⟩
    · refine ⟨(hN.has j b p h1).1, ?_⟩
      rcases (hN.has j b p h1).2 with h2 | h2
      · exact .inl (Nat.le_trans h.but.size h2)
      · subst h2; exact (h.has i b o hi).2
    · obtain ⟨hji, h2⟩ := inL _ b p h1
      exact ⟨(keep b (h.lt h2) (neg _ b p hji h2)).trans (h.has _ b p h2).1, (h.has _ b p h2).2⟩
  · rcases old j b p hj with ⟨_, h1⟩ | ⟨_, h1⟩ <;> rcases old k c q hk with ⟨_, h2⟩ | ⟨_, h2⟩
    · exact hN.sep j k b c p q h1 h2 hjk
    · obtain ⟨hji, h3⟩ := inL _ c q h2
      rcases (hN.has j b p h1).2 with h4 | h4
      · have := h.lt h3; omega
      · intro he; subst he; exact neg _ _ q hji h3 h4
    · obtain ⟨hji, h3⟩ := inL _ b p h1
      rcases (hN.has k c q h2).2 with h4 | h4
      · have := h.lt h3; omega
      · intro he; subst he; exact neg _ _ p hji h3 h4
    · exact h.sep _ _ b c p q (inL _ b p h1).2 (inL _ c q h2).2 (by omega)
end lent

section elems
variable {α : Type} {enc : α → List Value} {k : Nat}
theorem CellsB.at_ {B : Option Nat} {w0 : World} {A : Option Addr} {l : List α} (hC : CellsB B w0 A (flat enc l)) (hk : ∀ x, (enc x).length = k) (hk0 : 0 < k) {i : Nat} {x : α} (hx : l[i]? = some x) :
    ∃ b off, A = some ⟨b, off, none⟩ ∧ b < w0.heap.size ∧ B ≠ some b ∧ ∀ j v, (enc x)[j]? = some v → w0.cell? ⟨b, off + i * k + j, none⟩ = some v := by
  obtain ⟨b, off, hA, hb, he⟩ := hC.cells.at_ hk hk0 hx
  have hlt := lt_of_get hx
  obtain ⟨b', off', hA', _, hB, _⟩ := hC (by rw [flat_len hk]; exact Nat.mul_pos (by omega) hk0)
  rw [hA] at hA'
  injection hA' with hA'
  injection hA' with hA' _ _
  subst hA'
  exact ⟨b, off, hA, hb, hB, he⟩
theorem Row.zero_ (k b : Nat) : Row k (some b) 0 0 [] [] := ⟨by simp, by simp, by simp, by simp, by simp, fun h => by cases h⟩
end elems
/-- A call's end: a slice that lies in a block of its own making, or in the one that it was lent. -/
def Gives (k : Nat) (E : TypeId) (g : Option Nat) (n : Nat) (xs : List Value) (w0 : World) (v : Value) (w : World) : Prop :=
  ∃ (g' : Option Nat) (c' : Nat) (cl' : List Value), v = slv g' n c' ∧ Inv g w0 w [(g', blk cl' E)] ∧ Row k g' n c' cl' xs
end Go.K
