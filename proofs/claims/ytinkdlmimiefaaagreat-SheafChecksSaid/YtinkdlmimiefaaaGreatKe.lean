/-
  The ground of my own proofs, fifth part: the operations on slices, and lists of structs as cells. No condition.
-/
import Derived.Test.YtinkdlmimiefaaaGreatKd
import Derived.Lib.SliceRun
namespace Go.K
open Go.RowKit

/-! ### Lists of structs as cells -/
section flat
variable {α : Type} {enc : α → List Value} {k : Nat}
def flat (enc : α → List Value) (l : List α) : List Value := l.flatMap enc
theorem flat_nil : flat enc [] = [] := rfl
theorem flat_cons (x : α) (l : List α) : flat enc (x :: l) = enc x ++ flat enc l := rfl
theorem flat_append (l m : List α) : flat enc (l ++ m) = flat enc l ++ flat enc m := by simp [flat]
theorem flat_one (x : α) : flat enc [x] = enc x := by simp [flat]
theorem flat_len (hk : ∀ x, (enc x).length = k) : ∀ l : List α, (flat enc l).length = l.length * k
  | [] => by simp [flat]
  | x :: l => by rw [flat_cons, List.length_append, hk, flat_len hk l, List.length_cons, Nat.add_mul]; omega
theorem flat_get (hk : ∀ x, (enc x).length = k) : ∀ (l : List α) (i j : Nat) (x : α), l[i]? = some x → j < k → (flat enc l)[i * k + j]? = (enc x)[j]?
  | [], i, j, x, h, _ => by simp at h
  | y :: l, 0, j, x, h, hj => by
    simp only [List.getElem?_cons_zero, Option.some.injEq] at h
    subst h
    rw [flat_cons, Nat.zero_mul, Nat.zero_add, List.getElem?_append_left (by rw [hk]; exact hj)]
  | y :: l, i + 1, j, x, h, hj => by
    rw [flat_cons, List.getElem?_append_right (by rw [hk, Nat.add_mul]; omega), hk, show (i + 1) * k + j - k = i * k + j by rw [Nat.add_mul]; omega]
    exact flat_get hk l i j x (by simpa using h) hj
theorem flat_take (hk : ∀ x, (enc x).length = k) : ∀ (l : List α) (n : Nat), (flat enc l).take (n * k) = flat enc (l.take n)
  | [], n => by simp [flat]
  | x :: l, 0 => by simp [flat]
  | x :: l, n + 1 => by
    rw [flat_cons, List.take_succ_cons, flat_cons, Nat.add_mul, Nat.one_mul, List.take_append, hk, List.take_of_length_le (by rw [hk]; omega), show n * k + k - k = n * k by omega, flat_take hk l n]
theorem flat_drop (hk : ∀ x, (enc x).length = k) : ∀ (l : List α) (n : Nat), (flat enc l).drop (n * k) = flat enc (l.drop n)
  | [], n => by simp [flat]
  | x :: l, 0 => by simp [flat]
  | x :: l, n + 1 => by
    rw [flat_cons, List.drop_succ_cons, Nat.add_mul, Nat.one_mul, List.drop_append, hk, List.drop_of_length_le (by rw [hk]; omega), show n * k + k - k = n * k by omega, flat_drop hk l n, List.nil_append]
theorem put_append (a b : List Value) (off : Nat) (vs : List Value) (h : a.length ≤ off) : putCells (a ++ b) off vs = a ++ putCells b (off - a.length) vs := by
  induction vs generalizing b off with
  | nil => rfl
  | cons v vs ih =>
    rw [putCells, putCells, List.set_append_right _ _ h, ih _ _ (by omega), show off + 1 - a.length = off - a.length + 1 by omega]
theorem put_left : ∀ (vs a b : List Value) (off : Nat), off + vs.length ≤ a.length → putCells (a ++ b) off vs = putCells a off vs ++ b
  | [], a, b, off, _ => rfl
  | v :: vs, a, b, off, h => by
    simp only [List.length_cons] at h
    rw [putCells, putCells, List.set_append_left _ _ (by omega), put_left vs _ b (off + 1) (by simp; omega)]
theorem put_all (vs a : List Value) (h : vs.length = a.length) : putCells a 0 vs = vs := by
  have := put_take a vs 0 (by omega)
  simp only [Nat.zero_add, List.take_zero, List.nil_append] at this
  rw [List.take_of_length_le (by rw [put_len]; omega)] at this
  exact this
end flat

section steps
variable {P : Program} {ρ : Env} {B : Option Nat} {w w0 : World} {L : List (Option Nat × Obj)} {R : Value → World → Prop} {d : Option Nat} {ty : TypeId} {pos : String} {af : Array Edge} {gd : Option (Nat × Bool)}

theorem Inv.nilRow (hI : Inv B w0 w L) (e : TypeId) : Inv B w0 w ((none, blk [] e) :: L) := hI.more (Below.refl _ w) fun b hb => by cases hb

theorem s_append (hI : Inv B w0 w L) {t e : TypeId} {i : TypeInfo} {z : Value} {k bytes : Nat} (ht : P.underlying t = some (.slice e)) (hi : P.info? e = some i) (hz : i.zero = some z) (hk : i.size = k) (hby : i.bytes = bytes) (hzs : z.cells.size = k) (hk0 : 0 < k)
    {x y : Operand} (ix : Nat) {g : Option Nat} {n c : Nat} {cl xs : List Value} (hx : ev ρ x = slv g n c) (hL : L[ix]? = some (g, blk cl e)) (hr : Row k g n c cl xs)
    {A : Option Addr} {m c2 : Nat} {news : List Value} (hy : ev ρ y = .slice A m c2) (hl : news.length = m * k) (hc : Cells w A news) (h1 : ∀ u ∈ news, u.oneCell' = true) (hmax : n + m ≤ maxLen) (hbytes : (n + m) * bytes ≤ 140737488355328)
    (kk : ∀ g' c' cl' w', Inv B w0 w' (L.set ix (g', blk cl' e)) → Row k g' (n + m) c' cl' (xs ++ news) → R (slv g' (n + m) c') w') :
    Step P ⟨d, .call ⟨.builtin .append, #[x, y], #[t, t]⟩, ty, pos, af, gd⟩ ρ w R := by
  obtain ⟨g', c', cl', w', hrun, hrow, hinv⟩ := run_append (c2 := c2) hI (ty := ty) ht hi hz hk hby hzs hk0 ix hL hr hl hc h1 hmax hbytes
  have h : (execOp (ev ρ) ⟨d, .call ⟨.builtin .append, #[x, y], #[t, t]⟩, ty, pos, af, gd⟩).run P w = .ok (.value (slv g' (n + m) c')) w' := by
    simp [execOp, resolve, invoke, builtin, hx, hy, hrun]
  unfold Step; rw [h]; exact kk g' c' cl' w' hinv hrow

/-- What makes one new block. -/
theorem s_new (hI : Inv B w0 w L) {o : Oper} (cl : List Value) (E : TypeId) (v : Nat → Value) (h : (execOp (ev ρ) o).run P w = .ok (.value (v w.heap.size)) (w.alloc (blk cl E))) (k : ∀ b w', Inv B w0 w' ((some b, blk cl E) :: L) → R (v b) w') : Step P o ρ w R := by
  unfold Step; rw [h]; exact k _ _ (hI.alloc _)

theorem s_index {T E : TypeId} {x y : Operand} {b off n c k m : Nat} {i : Int} (hT : P.underlying T = some (.slice E)) (hS : ∀ w, (Go.sizeOf E).run P w = .ok k w) (hx : ev ρ x = .slice (some ⟨b, off, none⟩) n c) (hy : ev ρ y = .int .i64 i) (hi : i = (m : Int)) (hm : m < n)
    (kk : R (.pointer (some ⟨b, off + m * k, none⟩)) w) : Step P ⟨d, .indexAddr T x y, ty, pos, af, gd⟩ ρ w R := by
  refine s_pure (.pointer (some ⟨b, off + m * k, none⟩)) ?_ kk
  have : execOp (ev ρ) ⟨d, .indexAddr T x y, ty, pos, af, gd⟩ = (do pure (.value (← Instr.indexAt T (ev ρ x) (ev ρ y)))) := rfl
  rw [this, hx, hy]
  subst hi
  have h1 : (0 : Int) ≤ (m : Int) ∧ (m : Int) < (n : Int) := by omega
  have h3 : ¬ n ≤ m := by omega
  simp [Instr.indexAt, asIntOf, run_underlying hT, hS, add_lit, hm]

theorem s_loadB1 (hI : Inv B w0 w L) {T : TypeId} {x : Operand} {a : Addr} (v : Value) (hA : ∀ w, (isAgg T).run P w = .ok false w) (ha : ev ρ x = .pointer (some a)) (hb : a.block < w0.heap.size) (hB : B ≠ some a.block) (hc : w0.cell? a = some v) (k : R v w) :
    Step P ⟨d, .load T x, ty, pos, af, gd⟩ ρ w R := s_load ha (run_load_cell (by rw [← hc]; simp [World.cell?, hI.but.block a.block hb hB]) hA) k
theorem s_loadBK (hI : Inv B w0 w L) {T : TypeId} {x : Operand} {b off : Nat} {n : Nat} (vs : List Value) (hA : ∀ w, (isAgg T).run P w = .ok true w) (hS : ∀ w, (Go.sizeOf T).run P w = .ok n w) (ha : ev ρ x = .pointer (some ⟨b, off, none⟩)) (hn : vs.length = n)
    (hb : b < w0.heap.size) (hB : B ≠ some b) (hc : ∀ j v, vs[j]? = some v → w0.cell? ⟨b, off + j, none⟩ = some v) (k : R (.agg vs.toArray) w) : Step P ⟨d, .load T x, ty, pos, af, gd⟩ ρ w R :=
  s_load ha (run_load_agg hA hS hn fun j v hj => by rw [add_lit, ← hc j v hj]; simp [World.cell?, hI.but.block b hb hB]) k
/-- A load out of a row of the call's own, at a place that is reckoned. -/
theorem s_loadR1 (hI : Inv B w0 w L) {T : TypeId} {x : Operand} (i : Nat) {b off : Nat} {cl : List Value} {T' : TypeId} (v : Value) (hA : ∀ w, (isAgg T).run P w = .ok false w)
    (ha : ev ρ x = .pointer (some ⟨b, off, none⟩)) (hi : L[i]? = some (some b, blk cl T')) (hc : cl[off]? = some v) (k : R v w) : Step P ⟨d, .load T x, ty, pos, af, gd⟩ ρ w R := s_load1 hI i v hA ha hi hc k
theorem s_loadRK (hI : Inv B w0 w L) {T : TypeId} {x : Operand} (i : Nat) {n b off : Nat} {cl : List Value} {T' : TypeId} (vs : List Value) (hA : ∀ w, (isAgg T).run P w = .ok true w) (hS : ∀ w, (Go.sizeOf T).run P w = .ok n w)
    (ha : ev ρ x = .pointer (some ⟨b, off, none⟩)) (hi : L[i]? = some (some b, blk cl T')) (hn : vs.length = n) (hc : ∀ j v, vs[j]? = some v → cl[off + j]? = some v) (k : R (.agg vs.toArray) w) : Step P ⟨d, .load T x, ty, pos, af, gd⟩ ρ w R :=
  s_load ha (run_load_agg hA hS hn fun j v hj => by rw [add_lit]; exact hI.cell hi (by simpa using hc j v hj)) k

/-- The address of a part of a slice. -/
def sub (A : Option Addr) (c l k : Nat) : Option Addr := if c = l then A else A.map (·.add (l * k))
theorem sub_zero (A : Option Addr) (c k : Nat) : sub A c 0 k = A := by
  unfold sub
  split
  · rfl
  · cases A with
    | none => rfl
    | some a => simp [Addr.add]
theorem Cells.sub {A : Option Addr} {xs : List Value} (h : Cells w A xs) {c l k len : Nat} (hlen : l * k + len ≤ xs.length) (hc : len ≤ (c - l) * k) : Cells w (K.sub A c l k) ((xs.drop (l * k)).take len) := by
  intro h0
  simp only [List.length_take, List.length_drop] at h0
  obtain ⟨b, off, rfl, hb, hcell⟩ := h (by omega)
  have hne : ¬ c = l := by intro he; subst he; simp at hc; omega
  refine ⟨b, off + l * k, ?_, hb, fun j u hj => ?_⟩
  · unfold K.sub; rw [if_neg hne]; simp [add_lit]
  · rw [List.getElem?_take] at hj
    split at hj
    · rw [List.getElem?_drop] at hj
      have := hcell _ _ hj
      rwa [Nat.add_assoc]
    · cases hj

theorem s_slice {T E : TypeId} {x : Operand} {lo hi : Option Operand} {A : Option Addr} {n c l h k : Nat} (hT : P.underlying T = some (.slice E)) (hS : ∀ w, (Go.sizeOf E).run P w = .ok k w) (hx : ev ρ x = .slice A n c)
    (hlo : lo.map (ev ρ) = some (.int .i64 (l : Int)) ∨ lo = none ∧ l = 0) (hhi : hi.map (ev ρ) = some (.int .i64 (h : Int)) ∨ hi = none ∧ h = n) (hle : l ≤ h) (hc : h ≤ c)
    (kk : R (.slice (sub A c l k) (h - l) (c - l)) w) : Step P ⟨d, .slice T x lo hi none, ty, pos, af, gd⟩ ρ w R := by
  refine s_pure (.slice (sub A c l k) (h - l) (c - l)) ?_ kk
  have : execOp (ev ρ) ⟨d, .slice T x lo hi none, ty, pos, af, gd⟩ = (do pure (.value (← Instr.sliceAt T (ev ρ x) (lo.map (ev ρ)) (hi.map (ev ρ)) none))) := rfl
  rw [this, hx]
  have h1 : (0 : Int) ≤ (h : Int) ∧ (h : Int) ≤ (c : Int) := by omega
  have h2 : (0 : Int) ≤ (l : Int) ∧ (l : Int) ≤ (h : Int) := by omega
  have hs : (Instr.sliceBounds true n c (lo.map (ev ρ)) (hi.map (ev ρ)) none).run P w = .ok (l, h, c) w := by
    rcases hlo with hlo | ⟨rfl, rfl⟩ <;> rcases hhi with hhi | ⟨rfl, rfl⟩ <;> simp [Instr.sliceBounds, *, Instr.sliceBound, asIntOf]
  simp [Instr.sliceAt, run_underlying hT, Instr.slice, hs, hS, K.sub]

theorem s_eqnil {T Ty : TypeId} {x y : Operand} {E : TypeId} {A : Option Addr} {n c m c' : Nat} (hT : P.underlying T = some (.slice E)) (ha : ev ρ x = .slice A n c) (hb : ev ρ y = .slice none m c') (k1 : A = none → R (.bool true) w) (k2 : (∃ a, A = some a) → R (.bool false) w) :
    Step P ⟨d, .binOp .eql T x y Ty, ty, pos, af, gd⟩ ρ w R := by
  refine s_pure (.bool A.isNone) ?_ ?_
  · have : execOp (ev ρ) ⟨d, .binOp .eql T x y Ty, ty, pos, af, gd⟩ = (do pure (.value (← (do eqGuard .eql T x y (ev ρ x) (ev ρ y); binOp .eql T (ev ρ x) (ev ρ y))))) := rfl
    rw [this, ha, hb]
    have := Lib.run_eql_slice_nil w T E A n c m c' hT
    show ((binOp .eql T (.slice A n c) (.slice none m c') >>= fun v => pure (Next.value v)).run P w) = _
    rw [Sem.run_bind, this]; rfl
  · cases A with
    | none => exact k1 rfl
    | some a => exact k2 ⟨a, rfl⟩
end steps
end Go.K
