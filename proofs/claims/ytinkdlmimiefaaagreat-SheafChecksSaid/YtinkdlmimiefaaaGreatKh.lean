/-
  The ground of my own proofs, eighth part: what a call hands back besides a value: blocks of its own making, and a block that it was lent. No condition.
-/
import Derived.Test.YtinkdlmimiefaaaGreatKg
namespace Go.K
open Go.RowKit

section join
variable {B : Option Nat} {w0 w w' : World} {L N : List (Option Nat × Obj)}
theorem Inv.join (h : Inv B w0 w L) (hN : Inv none w w' N) : Inv B w0 w' (N ++ L) := by
  have hb := hN.below
  have old : ∀ (i b : Nat) (o : Obj), (N ++ L)[i]? = some (some b, o) → (i < N.length ∧ N[i]? = some (some b, o)) ∨ (N.length ≤ i ∧ L[i - N.length]? = some (some b, o)) := by
    intro i b o hi
    rcases Nat.lt_or_ge i N.length with hlt | hge
    · exact .inl ⟨hlt, by rwa [List.getElem?_append_left hlt] at hi⟩
    · exact .inr ⟨hge, by rwa [List.getElem?_append_right hge] at hi⟩
  have new : ∀ (i b : Nat) (o : Obj), N[i]? = some (some b, o) → w.heap.size ≤ b := fun i b o hi => by
    rcases (hN.has i b o hi).2 with h1 | h1
    · exact h1
    · cases h1
  refine ⟨h.but.thenBelow hb, fun i b o hi => ?_, fun i j b c o p hi hj hij => ?_⟩
  · rcases old i b o hi with ⟨_, h1⟩ | ⟨_, h1⟩
    · exact ⟨(hN.has i b o h1).1, .inl (Nat.le_trans h.but.size (new i b o h1))⟩
    · exact ⟨(hb.block b (h.lt h1)).trans (h.has _ b o h1).1, (h.has _ b o h1).2⟩
  · rcases old i b o hi with ⟨_, h1⟩ | ⟨_, h1⟩ <;> rcases old j c p hj with ⟨_, h2⟩ | ⟨_, h2⟩
    · exact hN.sep i j b c o p h1 h2 hij
    · have := new i b o h1; have := h.lt h2; omega
    · have := new j c p h2; have := h.lt h1; omega
    · exact h.sep _ _ b c o p h1 h2 (by omega)
theorem Inv.nil_of (h : Below w.heap.size w w') : Inv none w w' [] := ⟨.of_below h, fun i b o h => (by simp at h), fun i j b c o p h => (by simp at h)⟩
theorem Inv.nils (h : Inv B w0 w L) (i : Nat) (o : Obj) (hi : L[i]? = some (none, o)) (o' : Obj) : Inv B w0 w (L.set i (none, o')) :=
  h.turn hi rfl rfl rfl (Nat.le_refl _) (fun _ _ _ => rfl) (fun b hb => by cases hb)
end join

/-! ### A plot as it is handed in -/
structure Pl where
  lo : Int
  hi : Int
  loads : List Ld
  stands : List Ld
  spells : List Sp
  geese : Int

structure PlotIn (w : World) (p : Pl) (A1 : Option Addr) (n1 : Nat) (A2 : Option Addr) (n2 : Nat) (A3 : Option Addr) (n3 : Nat) : Prop where
  c1 : Cells w A1 (flat eLd p.loads)
  m1 : n1 = p.loads.length
  c2 : Cells w A2 (flat eLd p.stands)
  m2 : n2 = p.stands.length
  c3 : Cells w A3 (flat eSp p.spells)
  m3 : n3 = p.spells.length
  b1 : n1 ≤ 9223372036854775807
  b2 : n2 ≤ 9223372036854775807
  b3 : n3 ≤ 9223372036854775807
theorem PlotIn.inv0 {w0 w : World} {L : List (Option Nat × Obj)} {p : Pl} {A1 A2 A3 : Option Addr} {n1 n2 n3 : Nat} (h : PlotIn w0 p A1 n1 A2 n2 A3 n3) (hI : Inv none w0 w L) : PlotIn w p A1 n1 A2 n2 A3 n3 :=
  ⟨h.c1.inv0 hI, h.m1, h.c2.inv0 hI, h.m2, h.c3.inv0 hI, h.m3, h.b1, h.b2, h.b3⟩
/-! ### append, with what is known of the element type in one fact -/
section app
variable {P : Program} {ρ : Env} {B : Option Nat} {w w0 : World} {L : List (Option Nat × Obj)} {R : Value → World → Prop} {d : Option Nat} {ty : TypeId} {pos : String} {af : Array Edge} {gd : Option (Nat × Bool)}
theorem s_app (hI : Inv B w0 w L) {t e : TypeId} {z : Value} {k bytes : Nat} (ht : P.underlying t = some (.slice e)) (hinfo : (P.info? e).map (fun i => (i.zero, i.size, i.bytes)) = some (some z, k, bytes)) (hzs : z.cells.size = k) (hk0 : Nat.blt 0 k = true)
    {x y : Operand} (ix : Nat) {g : Option Nat} {n c : Nat} {cl xs : List Value} (hx : ev ρ x = slv g n c) (hL : L[ix]? = some (g, blk cl e)) (hr : Row k g n c cl xs)
    {A : Option Addr} {m c2 : Nat} (news : List Value) (hy : ev ρ y = .slice A m c2) (hl : news.length = m * k) (hc : Cells w A news) (h1 : ∀ u ∈ news, u.oneCell' = true) (hmax : n + m ≤ 9223372036854775807) (hbytes : (n + m) * bytes ≤ 140737488355328)
    (kk : ∀ g' c' cl' w', Inv B w0 w' (L.set ix (g', blk cl' e)) → Row k g' (n + m) c' cl' (xs ++ news) → R (slv g' (n + m) c') w') :
    Step P ⟨d, .call ⟨.builtin .append, #[x, y], #[t, t]⟩, ty, pos, af, gd⟩ ρ w R := by
  cases hq : P.info? e with
  | none => rw [hq] at hinfo; cases hinfo
  | some i =>
    rw [hq] at hinfo
    simp only [Option.map_some, Option.some.injEq, Prod.mk.injEq] at hinfo
    exact s_append hI ht hq hinfo.1 hinfo.2.1 hinfo.2.2 hzs (by simpa [Nat.blt_eq] using hk0) ix hx hL hr hy hl hc h1 (by simpa [maxLen] using hmax) hbytes kk
end app
section rows
variable {α : Type} {enc : α → List Value} {k : Nat} {g : Option Nat} {n c : Nat} {cl : List Value}
theorem Row.snoc {X : List α} {vs : List Value} (h : Row k g n c cl (flat enc X ++ vs)) (y : α) (he : enc y = vs) : Row k g n c cl (flat enc (X ++ [y])) := by
  rw [flat_append, flat_one, he]; exact h
theorem Row.more {X Y : List α} (h : Row k g n c cl (flat enc X ++ flat enc Y)) : Row k g n c cl (flat enc (X ++ Y)) := by rw [flat_append]; exact h
theorem Row.to {X Y : List α} (h : Row k g n c cl (flat enc X)) (e : X = Y) {m : Nat} (hm : n = m) : Row k g m c cl (flat enc Y) := by subst e; subst hm; exact h
theorem flat_cell (h : ∀ x, ∀ u ∈ enc x, u.oneCell' = true) (l : List α) : ∀ u ∈ flat enc l, u.oneCell' = true := by
  intro u hu
  simp only [flat, List.mem_flatMap] at hu
  obtain ⟨x, _, hx⟩ := hu
  exact h x u hx
end rows
theorem eRg_cell (x : Rg) : ∀ u ∈ eRg x, u.oneCell' = true := by simp [eRg, Value.oneCell']
theorem eLd_cell (x : Ld) : ∀ u ∈ eLd x, u.oneCell' = true := by simp [eLd, Value.oneCell']
theorem eSp_cell (x : Sp) : ∀ u ∈ eSp x, u.oneCell' = true := by simp [eSp, Value.oneCell']
theorem eNt_cell (x : Nt) : ∀ u ∈ eNt x, u.oneCell' = true := by simp [eNt, Value.oneCell']
theorem eInt_cell (x : Int) : ∀ u ∈ eInt x, u.oneCell' = true := by simp [eInt, Value.oneCell']
end Go.K
