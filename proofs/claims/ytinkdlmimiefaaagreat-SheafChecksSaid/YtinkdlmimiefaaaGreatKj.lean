/-
  The ground of my own proofs, tenth part: writing into a row, cutting it, clearing its end. No condition.
-/
import Derived.Test.YtinkdlmimiefaaaGreatKi
namespace Go.K
open Go.RowKit

section rows
variable {α : Type} {enc : α → List Value} {k : Nat} {g : Option Nat} {n c : Nat} {cl : List Value}
theorem put_mid (a b c' vs : List Value) (h : vs.length = b.length) : putCells (a ++ b ++ c') a.length vs = a ++ vs ++ c' := by
  rw [List.append_assoc, put_append a (b ++ c') a.length vs (Nat.le_refl _), Nat.sub_self, put_left vs b c' 0 (by omega), put_all vs b h, List.append_assoc]
theorem flat_set (hk : ∀ x, (enc x).length = k) (M : List α) (i : Nat) (y : α) (hi : i < M.length) : putCells (flat enc M) (i * k) (enc y) = flat enc (M.set i y) := by
  have h1 : M = M.take i ++ [M[i]] ++ M.drop (i + 1) := by simp
  have h2 : M.set i y = M.take i ++ [y] ++ M.drop (i + 1) := by
    rw [List.set_eq_take_append_cons_drop, if_pos hi]; simp
  have hl : (flat enc (M.take i)).length = i * k := by rw [flat_len hk, List.length_take, Nat.min_eq_left (by omega)]
  rw [h2, flat_append, flat_append, flat_one]
  conv => lhs; arg 1; rw [h1, flat_append, flat_append, flat_one]
  rw [← hl]
  exact put_mid _ _ _ _ (by rw [hk, hk])
theorem Row.put {M : List α} (hr : Row k g n c cl (flat enc M)) (hk : ∀ x, (enc x).length = k) (hk0 : 0 < k) (i : Nat) (y : α) (hi : i < n) : Row k g n c (putCells cl (i * k) (enc y)) (flat enc (M.set i y)) := by
  have hn := hr.n_eq hk hk0
  have hle : n * k ≤ cl.length := by rw [hr.size]; exact Nat.mul_le_mul_right _ hr.cap
  have hik : i * k + k ≤ n * k := by
    have := Nat.mul_le_mul_right k (show i + 1 ≤ n from hi)
    rwa [Nat.add_mul, Nat.one_mul] at this
  refine ⟨by rw [flat_len hk, List.length_set, hn], hr.cap, hr.capmax, by rw [put_len, hr.size], ?_, hr.nil⟩
  rw [← flat_set hk M i y (by omega), ← hr.head]
  have hsplit : cl = cl.take (n * k) ++ cl.drop (n * k) := (List.take_append_drop _ _).symm
  conv => lhs; arg 2; rw [hsplit, put_left _ _ _ _ (by rw [List.length_take, Nat.min_eq_left hle, hk]; exact hik)]
  rw [List.take_left' (by rw [put_len, List.length_take, Nat.min_eq_left hle])]
theorem Row.cut {M : List α} (hr : Row k g n c cl (flat enc M)) (hk : ∀ x, (enc x).length = k) (hk0 : 0 < k) (i : Nat) (hi : i ≤ n) : Row k g i c cl (flat enc (M.take i)) := by
  have hn := hr.n_eq hk hk0
  refine ⟨by rw [flat_len hk, List.length_take, Nat.min_eq_left (by omega)], Nat.le_trans hi hr.cap, hr.capmax, hr.size, ?_, hr.nil⟩
  rw [← flat_take hk, ← hr.head, List.take_take, Nat.min_eq_left (Nat.mul_le_mul_right _ hi)]
theorem Row.same {M : List Value} {cl' : List Value} (hr : Row k g n c cl M) (hl : cl'.length = cl.length) (h : cl'.take (n * k) = cl.take (n * k)) : Row k g n c cl' M :=
  ⟨hr.len, hr.cap, hr.capmax, hl.trans hr.size, h.trans hr.head, hr.nil⟩
theorem Row.room {M : List α} (hr : Row k g n c cl (flat enc M)) {i : Nat} (hi : i < n) : i * k + k ≤ cl.length := by
  have := Nat.mul_le_mul_right k (show i + 1 ≤ c from Nat.le_trans hi hr.cap)
  rw [Nat.add_mul, Nat.one_mul] at this
  rw [hr.size]; exact this
end rows

theorem Row.atS {α : Type} {enc : α → List Value} {k b n c : Nat} {cl : List Value} {l : List α} (hr : Row k (some b) n c cl (flat enc l)) (hk : ∀ x, (enc x).length = k) (hk0 : 0 < k) {i : Nat} {x : α} (hx : l[i]? = some x) : ∀ j v, (enc x)[j]? = some v → cl[i * k + j]? = some v := by
  obtain ⟨_, _, h⟩ := hr.at_ hk hk0 hx
  exact h
theorem Cells.nil_of {w : World} {xs : List Value} (h : Cells w none xs) : xs = [] := by
  rcases Nat.eq_zero_or_pos xs.length with h0 | h0
  · exact List.eq_nil_of_length_eq_zero h0
  · obtain ⟨b, off, hA, _⟩ := h h0
    cases hA
theorem flat_nil_of {α : Type} {enc : α → List Value} {k : Nat} (hk : ∀ x, (enc x).length = k) (hk0 : 0 < k) {l : List α} (h : flat enc l = []) : l = [] := by
  cases l with
  | nil => rfl
  | cons x l =>
    have := flat_len hk (x :: l)
    rw [h] at this
    simp only [List.length_nil, List.length_cons, Nat.add_mul] at this
    omega

/-- A call's end: the slice that it was lent, in the block that it was lent. -/
def GivesIn (k : Nat) (E : TypeId) (g : Option Nat) (c n : Nat) (xs : List Value) (w0 : World) (v : Value) (w : World) : Prop :=
  ∃ (cl' : List Value), v = slv g n c ∧ Inv g w0 w [(g, blk cl' E)] ∧ Row k g n c cl' xs
/-- A call's end: it hands back nothing; the row that it was lent holds this now. -/
def TurnsIn (k : Nat) (E : TypeId) (g : Option Nat) (c n : Nat) (xs : List Value) (w0 : World) (v : Value) (w : World) : Prop :=
  ∃ (cl' : List Value), v = .tuple #[] ∧ Inv g w0 w [(g, blk cl' E)] ∧ Row k g n c cl' xs

section steps
variable {P : Program} {ρ : Env} {B : Option Nat} {w w0 : World} {L : List (Option Nat × Obj)} {R : Value → World → Prop} {d : Option Nat} {ty : TypeId} {pos : String} {af : Array Edge} {gd : Option (Nat × Bool)}
theorem s_sliceHi {T E : TypeId} {x y : Operand} {A : Option Addr} {n c k : Nat} (h : Nat) (hT : P.underlying T = some (.slice E)) (hS : ∀ w, (Go.sizeOf E).run P w = .ok k w) (hx : ev ρ x = .slice A n c) (hy : ev ρ y = .int .i64 (h : Int)) (hc : h ≤ c)
    (kk : R (.slice A h c) w) : Step P ⟨d, .slice T x none (some y) none, ty, pos, af, gd⟩ ρ w R :=
  s_slice (l := 0) (h := h) hT hS hx (.inr ⟨rfl, rfl⟩) (.inl (by simp [hy])) (Nat.zero_le _) hc (by rw [sub_zero]; exact kk)
theorem s_sliceLo {T E : TypeId} {x y : Operand} {A : Option Addr} {n c k : Nat} (l : Nat) (hT : P.underlying T = some (.slice E)) (hS : ∀ w, (Go.sizeOf E).run P w = .ok k w) (hx : ev ρ x = .slice A n c) (hy : ev ρ y = .int .i64 (l : Int)) (hl : l ≤ n) (hc : n ≤ c)
    (kk : R (.slice (sub A c l k) (n - l) (c - l)) w) : Step P ⟨d, .slice T x (some y) none none, ty, pos, af, gd⟩ ρ w R :=
  s_slice (l := l) (h := n) hT hS hx (.inl (by simp [hy])) (.inr ⟨rfl, rfl⟩) hl hc kk

/-- clear(s[l:]): the end of a row becomes zero. -/
theorem s_clearTail (hI : Inv B w0 w L) {T E : TypeId} {x : Operand} {z : Value} (ix : Nat) {b n c l k : Nat} {cl : List Value} (hT : P.underlying T = some (.slice E)) (hz : ∀ w, (zeroValue E).run P w = .ok z w) (hzk : z.cells.size = k) (hz1' : z.cells.toList.all Value.oneCell' = true)
    (hx : ev ρ x = .slice (sub (some ⟨b, 0, none⟩) c l k) (n - l) (c - l)) (hL : L[ix]? = some (some b, blk cl E)) (hl : l ≤ n) (hn : n ≤ c) (hc : cl.length = c * k)
    (kk : ∀ cl' w', Inv B w0 w' (L.set ix (some b, blk cl' E)) → cl'.length = cl.length → cl'.take (l * k) = cl.take (l * k) → R (.tuple #[]) w') :
    Step P ⟨d, .call ⟨.builtin .clear, #[x], #[T]⟩, ty, pos, af, gd⟩ ρ w R := by
  have hz1 : ∀ u ∈ z.cells.toList, u.oneCell' = true := fun u hu => List.all_eq_true.1 hz1' u hu
  have hz' : ∀ (m : Nat), ∀ u ∈ (Builtin.zeroCells z.cells m).toList, u.oneCell' = true := by
    intro m u hu
    simp only [Builtin.zeroCells, Array.toList_map, Array.toList_range, List.mem_map, List.mem_range] at hu
    obtain ⟨i, hi, rfl⟩ := hu
    have hpos : 0 < z.cells.size := by
      rcases Nat.eq_zero_or_pos z.cells.size with h0 | h0
      · rw [h0] at hi; omega
      · exact h0
    have hlt : i % z.cells.size < z.cells.size := Nat.mod_lt _ hpos
    rw [getElem!_pos z.cells _ hlt]
    exact hz1 _ (by simp)
  by_cases h0 : n - l = 0
  · have h : (execOp (ev ρ) ⟨d, .call ⟨.builtin .clear, #[x], #[T]⟩, ty, pos, af, gd⟩).run P w = .ok (.value (.tuple #[])) w := by
      have h2 : ∀ A c', (Builtin.clear_ #[T] ty #[.slice A 0 c']).run P w = .ok (.tuple #[]) w := fun A c' => by
        cases A <;> simp [Builtin.clear_, run_underlying hT]
      simp [execOp, resolve, invoke, builtin, hx, h0, h2]
    unfold Step; rw [h]
    have hset : L.set ix (some b, blk cl E) = L := by
      apply List.ext_getElem?
      intro j
      rw [List.getElem?_set]
      split
      · rename_i hj; subst hj
        split
        · exact hL.symm
        · rename_i hge; rw [List.getElem?_eq_none (by omega)]
      · rfl
    exact kk cl w (by rw [hset]; exact hI) rfl rfl
  · have hne : ¬ c = l := by omega
    have hlk : l * k + (n - l) * k ≤ cl.length := by
      rw [hc, ← Nat.add_mul]; exact Nat.mul_le_mul_right _ (by omega)
    obtain ⟨w', hrun, e1, e2, e3, e4, e5, e6⟩ := run_storeCells (P := P) (Builtin.zeroCells z.cells (n - l)).toList (l * k) 0 w cl (hI.has ix b _ hL).1 (by rw [zero_len, hzk]; omega) (hz' _)
    have h : (execOp (ev ρ) ⟨d, .call ⟨.builtin .clear, #[x], #[T]⟩, ty, pos, af, gd⟩).run P w = .ok (.value (.tuple #[])) w' := by
      obtain ⟨m, hm⟩ : ∃ m, n - l = m + 1 := ⟨n - l - 1, by omega⟩
      have hs : sub (some ⟨b, 0, none⟩) c l k = some ⟨b, l * k, none⟩ := by unfold sub; rw [if_neg hne]; simp [add_lit]
      rw [hm] at hrun hx
      rw [hs] at hx
      have h2 : (Builtin.clear_ #[T] ty #[.slice (some ⟨b, l * k, none⟩) (m + 1) (c - l)]).run P w = .ok (.tuple #[]) w' := by
        simp [Builtin.clear_, run_underlying hT, hz, hrun]
      simp [execOp, resolve, invoke, builtin, hx, h2]
    unfold Step; rw [h]
    refine kk _ w' (hI.turn hL e1 e2 e3 (by omega) (fun k hk hg => e5 k fun he => hg (by rw [he])) (fun b' hb' => by injection hb' with hb'; subst hb'; simpa using e6)) (put_len _ _ _) ?_
    have hsplit : cl = cl.take (l * k) ++ cl.drop (l * k) := (List.take_append_drop _ _).symm
    have hlen : (cl.take (l * k)).length = l * k := by rw [List.length_take, Nat.min_eq_left (by omega)]
    conv => lhs; arg 2; rw [hsplit, put_append _ _ _ _ (by rw [hlen]; exact Nat.le_refl _)]
    rw [List.take_left' hlen]
end steps
end Go.K
