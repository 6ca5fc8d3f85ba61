/- The plot that numbers make. -/
import Derived.Test.YtinkdlmimiefaaaGreatProg
import Derived.Test.YtinkdlmimiefaaaGreatPGG
namespace Go.K
open Go.Proofs Go.RowKit
set_option linter.unusedVariables false
set_option linter.unusedSimpArgs false
set_option maxRecDepth 100000
attribute [local irreducible] Seq Step CallV AnyE opX

def eA4 (x : A4) : List Value := [.int .i64 x.a, .int .i64 x.b, .int .i64 x.c, .int .i64 x.d]
theorem eA4_len (x : A4) : (eA4 x).length = 4 := rfl
def A4Ok (x : A4) : Prop := -9223372036854775808 ≤ x.c ∧ x.c ≤ 9223372036854775807
theorem ModC (x m : Int) (h : 0 < m ∧ m ≤ 1000000000) (w0 : World) : Does Tryz.prog 58 [.int .i64 x, .int .i64 m] w0 fun v w => v = .int .i64 (x % m) ∧ Below w0.heap.size w0 w := Mod_c w0 x m h
theorem max0 (a : Int) : (if a > 0 then a else 0) = max 0 a := by
  rw [Int.max_def]
  split <;> split <;> omega
theorem take_stop {α : Type} {l : List α} {k m : Nat} (h1 : k ≤ l.length) (h2 : k ≤ m) (h3 : l.length ≤ k ∨ m ≤ k) : l.take k = l.take m ∧ k = (l.take m).length := by
  rw [List.length_take]
  refine ⟨?_, by omega⟩
  rcases h3 with h3 | h3
  · rw [List.take_of_length_le h3, List.take_of_length_le (by omega)]
  · rw [show k = m by omega]
theorem take_len {α : Type} {l : List α} {k : Nat} {x : α} (hx : l[k]? = some x) : (l.take k).length = k := by
  have := lt_of_get hx
  rw [List.length_take]
  omega
theorem made1 {ls : List A4} {k : Nat} {r : A4} {l0 hv lv t : Int} (hx : ls[k]? = some r) (hh : hv = hEnd 20 (ls.take k)) (hl : lv = lEnd l0 (ls.take k)) (ht : t = mTook lv r) :
    mLoads 0 20 l0 (ls.take (k + 1)) = mLoads 0 20 l0 (ls.take k) ++ [(⟨1 + (k : Int), hv + r.a % 9, if t - r.c % 12 > 0 then t - r.c % 12 else 0, t + r.c.tdiv 12 % 12, r.d % 20, 0⟩, t)] := by
  rw [take_get hx, mLoads_snoc, mOne, take_len hx, ← hh, ← hl, ← ht, max0, toldF, Int.zero_add]
theorem made3 {ps : List A4} {j : Nat} {r : A4} (hx : ps[j]? = some r) :
    mSpells 0 (ps.take j) ++ [⟨41 + (j : Int), 1 + r.a % 2, 20 + r.b % 90, 20 + r.b % 90 + r.c % 12, r.d % 20, 0⟩] = mSpells 0 (ps.take (j + 1)) := by
  rw [take_get hx, mSpells_snoc, pOne, take_len hx, Int.zero_add]
theorem both_get {xs : List (Ld × Int)} {i : Nat} {x : Ld} {y : Int} (hx : (xs.map Prod.fst)[i]? = some x) (hy : (xs.map Prod.snd)[i]? = some y) : xs[i]? = some (x, y) := by
  rw [List.getElem?_map] at hx hy
  cases h : xs[i]? with
  | none => rw [h] at hx; cases hx
  | some z => rw [h] at hx hy; simp at hx hy; rw [← hx, ← hy]
theorem there_on {xs : List (Ld × Int)} {i : Nat} {x : Ld} {y g l : Int} (hx : (xs.map Prod.fst)[i]? = some x) (hy : (xs.map Prod.snd)[i]? = some y) (h : x.hr ≤ g) : thereF (xs.take (i + 1)) g l = thereF (xs.take i) g l - y := by
  rw [there_step (both_get hx hy), if_pos h]
theorem there_off {xs : List (Ld × Int)} {i : Nat} {x : Ld} {g l : Int} (hx : (xs.map Prod.fst)[i]? = some x) (h : ¬ x.hr ≤ g) : thereF (xs.take (i + 1)) g l = thereF (xs.take i) g l := by
  obtain ⟨y, hy⟩ := get_lt (l := xs) (i := i) (by have := lt_of_get hx; rw [List.length_map] at this; exact this)
  rw [List.getElem?_map, hy] at hx
  simp at hx
  rw [there_step hy, if_neg (by rw [hx]; exact h)]
theorem LOk.tk : ∀ {xs : List (Ld × Int)} {k h l : Int}, LOk k h l xs → ∀ t ∈ xs.map Prod.snd, 0 ≤ t ∧ t ≤ l
  | [], _, _, _, _, t, ht => by simp at ht
  | (y, u) :: xs, k, h, l, ⟨h1, h2, h3, h4, h5, h6⟩, t, ht => by
    rw [List.map_cons, List.mem_cons] at ht
    rcases ht with rfl | ht
    · exact h3
    · have := LOk.tk h6 t ht
      omega
/-- What Made returns: the plot, and how many were taken truly. -/
def GivesMade (q : Pl) (t : Int) (l : List Int) (w0 : World) (v : Value) (w : World) : Prop :=
  ∃ g1 c1 cl1 g2 c2 cl2 g3 c3 cl3 g4 c4 cl4, v = .tuple #[plv q g1 c1 g2 c2 g3 c3, .agg #[.int .i64 t, slv g4 l.length c4]] ∧ Inv none w0 w [(g1, blk cl1 30), (g2, blk cl2 31), (g3, blk cl3 33), (g4, blk cl4 3)]
    ∧ Row 6 g1 q.loads.length c1 cl1 (flat eLd q.loads) ∧ Row 6 g2 q.stands.length c2 cl2 (flat eLd q.stands) ∧ Row 6 g3 q.spells.length c3 cl3 (flat eSp q.spells) ∧ Row 1 g4 l.length c4 cl4 (flat eInt l)
theorem s_callMade {P : Program} {ρ : Env} {B : Option Nat} {w w0 : World} {L : List (Option Nat × Obj)} {R : Value → World → Prop} (hI : Inv B w0 w L) {o : Oper} (f : FuncId) (args : List Value) {q : Pl} {t : Int} {l : List Int} (h : (execOp (ev ρ) o).run P w = .ok (.enter f args.toArray) w)
    (hc : Does P f args w fun v w' => GivesMade q t l w v w') (kk : ∀ g1 c1 cl1 g2 c2 cl2 g3 c3 cl3 g4 c4 cl4 w', Inv B w0 w' ((g1, blk cl1 30) :: (g2, blk cl2 31) :: (g3, blk cl3 33) :: (g4, blk cl4 3) :: L) → Row 6 g1 q.loads.length c1 cl1 (flat eLd q.loads) → Row 6 g2 q.stands.length c2 cl2 (flat eLd q.stands) → Row 6 g3 q.spells.length c3 cl3 (flat eSp q.spells) → Row 1 g4 l.length c4 cl4 (flat eInt l) → R (.tuple #[plv q g1 c1 g2 c2 g3 c3, .agg #[.int .i64 t, slv g4 l.length c4]]) w') : Step P o ρ w R :=
  s_call f args h hc fun v w' ⟨g1, c1, cl1, g2, c2, cl2, g3, c3, cl3, g4, c4, cl4, hv, hN, r1, r2, r3, r4⟩ => by
    subst hv
    exact kk g1 c1 cl1 g2 c2 cl2 g3 c3 cl3 g4 c4 cl4 w' (hI.join hN) r1 r2 r3 r4

end Go.K
