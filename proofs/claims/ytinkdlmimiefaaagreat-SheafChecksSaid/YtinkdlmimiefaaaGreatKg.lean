/-
  The ground of my own proofs, seventh part: elements of slices, calls of function values, regions that draw their order with their operations in a list. No condition.
-/
import Derived.Test.YtinkdlmimiefaaaGreatKf
namespace Go.K
open Go.RowKit

section elems
variable {α : Type} {enc : α → List Value} {k : Nat}
theorem Cells.at_ {w0 : World} {A : Option Addr} {l : List α} (hC : Cells w0 A (flat enc l)) (hk : ∀ x, (enc x).length = k) (hk0 : 0 < k) {i : Nat} {x : α} (hx : l[i]? = some x) :
    ∃ b off, A = some ⟨b, off, none⟩ ∧ b < w0.heap.size ∧ ∀ j v, (enc x)[j]? = some v → w0.cell? ⟨b, off + i * k + j, none⟩ = some v := by
  have hlt : i < l.length := by
    rcases Nat.lt_or_ge i l.length with h | h
    · exact h
    · rw [List.getElem?_eq_none h] at hx; cases hx
  obtain ⟨b, off, hA, hb, hc⟩ := hC (by rw [flat_len hk]; exact Nat.mul_pos (by omega) hk0)
  refine ⟨b, off, hA, hb, fun j v hj => ?_⟩
  have hjk : j < k := by
    rw [← hk x]
    rcases Nat.lt_or_ge j (enc x).length with h | h
    · exact h
    · rw [List.getElem?_eq_none h] at hj; cases hj
  rw [Nat.add_assoc]
  exact hc _ v (by rw [flat_get hk l i j x hx hjk]; exact hj)
theorem Row.at_ {g : Option Nat} {n c : Nat} {cl : List Value} {l : List α} (hr : Row k g n c cl (flat enc l)) (hk : ∀ x, (enc x).length = k) (hk0 : 0 < k) {i : Nat} {x : α} (hx : l[i]? = some x) :
    ∃ b, g = some b ∧ ∀ j v, (enc x)[j]? = some v → cl[i * k + j]? = some v := by
  have hlt : i < l.length := by
    rcases Nat.lt_or_ge i l.length with h | h
    · exact h
    · rw [List.getElem?_eq_none h] at hx; cases hx
  have hn : n = l.length := by
    have := hr.len
    rw [flat_len hk] at this
    exact (Nat.eq_of_mul_eq_mul_right hk0 this).symm
  obtain ⟨b, hb⟩ := hr.some_ (by omega)
  refine ⟨b, hb, fun j v hj => ?_⟩
  have hjk : j < k := by
    rw [← hk x]
    rcases Nat.lt_or_ge j (enc x).length with h | h
    · exact h
    · rw [List.getElem?_eq_none h] at hj; cases hj
  exact hr.get (by rw [flat_get hk l i j x hx hjk]; exact hj)
theorem Row.n_eq {g : Option Nat} {n c : Nat} {cl : List Value} {l : List α} (hr : Row k g n c cl (flat enc l)) (hk : ∀ x, (enc x).length = k) (hk0 : 0 < k) : n = l.length := by
  have := hr.len
  rw [flat_len hk] at this
  exact (Nat.eq_of_mul_eq_mul_right hk0 this).symm
theorem part_of {es vs : List Value} {p : Nat → Value → Prop} (h : ∀ j v, es[j]? = some v → p j v) (fo n : Nat) (hv : (es.drop fo).take n = vs) : ∀ j v, vs[j]? = some v → p (fo + j) v := fun j v hj => by
  subst hv
  rw [List.getElem?_take] at hj
  split at hj
  · rw [List.getElem?_drop] at hj
    exact h _ v hj
  · cases hj
theorem get_lt {l : List α} {i : Nat} (h : i < l.length) : ∃ x, l[i]? = some x := ⟨_, List.getElem?_eq_getElem h⟩
theorem lt_of_get {l : List α} {i : Nat} {x : α} (hx : l[i]? = some x) : i < l.length := by
  rcases Nat.lt_or_ge i l.length with h | h
  · exact h
  · rw [List.getElem?_eq_none h] at hx; cases hx
theorem mem_of_get {l : List α} {i : Nat} {x : α} (hx : l[i]? = some x) : x ∈ l := List.mem_of_getElem? hx
theorem take_get {l : List α} {i : Nat} {x : α} (hx : l[i]? = some x) : l.take (i + 1) = l.take i ++ [x] := by
  rw [List.take_add_one, hx]; rfl
end elems

section steps
variable {P : Program} {ρ : Env} {B : Option Nat} {w w0 : World} {L : List (Option Nat × Obj)} {R : Value → World → Prop} {d : Option Nat} {ty : TypeId} {pos : String} {af : Array Edge} {gd : Option (Nat × Bool)}

theorem s_indexA {T E : TypeId} {x y : Operand} {A : Option Addr} {b off n c k : Nat} (m : Nat) {i : Int} (hT : P.underlying T = some (.slice E)) (hS : ∀ w, (Go.sizeOf E).run P w = .ok k w) (hx : ev ρ x = .slice A n c) (hA : A = some ⟨b, off, none⟩) (hy : ev ρ y = .int .i64 i) (hi : i = (m : Int)) (hm : m < n)
    (kk : R (.pointer (some ⟨b, off + m * k, none⟩)) w) : Step P ⟨d, .indexAddr T x y, ty, pos, af, gd⟩ ρ w R := s_index hT hS (hx.trans (by rw [hA])) hy hi hm kk
/-- An index into a slice that begins at its block's head. -/
theorem s_indexR {T E : TypeId} {x y : Operand} {b n c k : Nat} (m : Nat) {i : Int} (hT : P.underlying T = some (.slice E)) (hS : ∀ w, (Go.sizeOf E).run P w = .ok k w) (hx : ev ρ x = slv (some b) n c) (hy : ev ρ y = .int .i64 i) (hi : i = (m : Int)) (hm : m < n)
    (kk : R (.pointer (some ⟨b, m * k, none⟩)) w) : Step P ⟨d, .indexAddr T x y, ty, pos, af, gd⟩ ρ w R := s_index (off := 0) hT hS hx hy hi hm (by rw [Nat.zero_add]; exact kk)

theorem s_callVv (hI : Inv B w0 w L) {x : Operand} {as : Array Operand} {ats : Array TypeId} (args : List Value) {fv : Value} (v : Value) (hf : ev ρ x = fv) (ha : as.map (ev ρ) = args.toArray) (hc : CallV P fv args w fun v' w' => v' = v ∧ Below w.heap.size w w')
    (k : ∀ w', Inv B w0 w' L → R v w') : Step P ⟨d, .call ⟨.value x, as, ats⟩, ty, pos, af, gd⟩ ρ w R :=
  s_callV args hf ha hc fun v' w' ⟨hv, hb⟩ => by subst hv; exact k w' (hI.call hb)
theorem s_callVb (hI : Inv B w0 w L) {x : Operand} {as : Array Operand} {ats : Array TypeId} (args : List Value) {fv : Value} (b : Bool) (hf : ev ρ x = fv) (ha : as.map (ev ρ) = args.toArray) (hc : CallV P fv args w fun v' w' => v' = .bool b ∧ Below w.heap.size w w')
    (k1 : b = true → ∀ w', Inv B w0 w' L → R (.bool true) w') (k2 : b = false → ∀ w', Inv B w0 w' L → R (.bool false) w') : Step P ⟨d, .call ⟨.value x, as, ats⟩, ty, pos, af, gd⟩ ρ w R :=
  s_callV args hf ha hc fun v' w' ⟨hv, hb⟩ => by
    subst hv
    cases hbb : b with
    | true => exact k1 hbb w' (hI.call hb)
    | false => exact k2 hbb w' (hI.call hb)

/-- A call that hands back a slice of its own making. -/
theorem s_calln (hI : Inv B w0 w L) {o : Oper} (f : FuncId) (args : List Value) {β : Type} {v : β → Value} {g : β → Option Nat} {ob : β → Obj} {p : β → Prop} (h : (execOp (ev ρ) o).run P w = .ok (.enter f args.toArray) w)
    (hc : Does P f args w fun v' w' => ∃ y, v' = v y ∧ Below w.heap.size w w' ∧ (∀ b, g y = some b → w.heap.size ≤ b ∧ w'.heap[b]? = some (ob y)) ∧ p y)
    (k : ∀ y w', Inv B w0 w' ((g y, ob y) :: L) → p y → R (v y) w') : Step P o ρ w R :=
  s_call f args h hc fun v' w' ⟨y, hv, hb, hn, hp⟩ => by subst hv; exact k y w' (hI.more hb hn) hp
/-- A call that turns the block that it is lent. -/
theorem s_callm (hI : Inv B w0 w L) {o : Oper} (f : FuncId) (args : List Value) (i : Nat) {g : Option Nat} {ob : Obj} {β : Type} {v : β → Value} {ob' : β → Obj} {p : β → Prop} (h : (execOp (ev ρ) o).run P w = .ok (.enter f args.toArray) w) (hi : L[i]? = some (g, ob))
    (hc : Does P f args w fun v' w' => ∃ y, v' = v y ∧ But g w w' ∧ (∀ b, g = some b → w'.heap[b]? = some (ob' y)) ∧ p y)
    (k : ∀ y w', Inv B w0 w' (L.set i (g, ob' y)) → p y → R (v y) w') : Step P o ρ w R :=
  s_call f args h hc fun v' w' ⟨y, hv, hb, hn, hp⟩ => by subst hv; exact k y w' (hI.turned i hi hb hn) hp
end steps

section anyl
variable {P : Program} {l : List Oper} {B : Option Nat} {w0 : World} {Lc : List (Option Nat × Obj)} {Q : Env → World → Prop} {fuel : Nat} {listed : Array Bool} {ρ : Env} {L : List (Option Nat × Obj)} {d : Option Nat} {op : Op} {ty : TypeId} {pos : String} {af : Array Edge}
theorem al_light (i : Nat) (v : Value) (hsub : ∀ x, Inv B w0 x L → Inv B w0 x Lc) (hi : l[i]? = some ⟨d, op, ty, pos, af, none⟩) (hg : (Region.noSelect l.toArray && goB l.toArray listed i) = true)
    (hl : ∀ w, Inv B w0 w Lc → Step P ⟨d, op, ty, pos, af, none⟩ ρ w (fun v' w' => v' = v ∧ Below w.heap.size w w'))
    (h : AnyE P l.toArray B w0 Lc Q fuel (listed.setIfInBounds i true) (updO ρ d v) L) : AnyE P l.toArray B w0 Lc Q (fuel + 1) listed ρ L := by
  simp only [Bool.and_eq_true] at hg
  exact any_light i v hg.1 hsub (by simpa using hi) hg.2 hl h
theorem al_on (i : Nat) (v : Value) {j : Nat} {b : Bool} (hsub : ∀ x, Inv B w0 x L → Inv B w0 x Lc) (hi : l[i]? = some ⟨d, op, ty, pos, af, some (j, b)⟩) (hg : (Region.noSelect l.toArray && goB l.toArray listed i) = true) (hy : yieldE l.toArray ρ j = some b)
    (hl : ∀ w, Inv B w0 w Lc → Step P ⟨d, op, ty, pos, af, some (j, b)⟩ ρ w (fun v' w' => v' = v ∧ Below w.heap.size w w'))
    (h : AnyE P l.toArray B w0 Lc Q fuel (listed.setIfInBounds i true) (updO ρ d v) L) : AnyE P l.toArray B w0 Lc Q (fuel + 1) listed ρ L := by
  simp only [Bool.and_eq_true] at hg
  exact any_on i v hg.1 hsub (by simpa using hi) hg.2 hy hl h
theorem al_off (i : Nat) {j : Nat} {b : Bool} (hsub : ∀ x, Inv B w0 x L → Inv B w0 x Lc) (hi : l[i]? = some ⟨d, op, ty, pos, af, some (j, b)⟩) (hg : (Region.noSelect l.toArray && goB l.toArray listed i) = true) (hy : (yieldE l.toArray ρ j == some b) = false)
    (h : AnyE P l.toArray B w0 Lc Q fuel (listed.setIfInBounds i true) (updO ρ d undef) L) : AnyE P l.toArray B w0 Lc Q (fuel + 1) listed ρ L := by
  simp only [Bool.and_eq_true] at hg
  exact any_off i hg.1 hsub (by simpa using hi) hg.2 hy h
theorem ol_c {i : Nat} {w : World} {K : Env → World → Prop} (hi : l[i]? = some ⟨d, op, ty, pos, af, none⟩) (h : Step P ⟨d, op, ty, pos, af, none⟩ ρ w (fun v w' => K (updO ρ d v) w')) : opX P l.toArray i ρ w K := opx_c (by simpa using hi) h
theorem ol_on {i : Nat} {w : World} {K : Env → World → Prop} {j : Nat} {b : Bool} (hi : l[i]? = some ⟨d, op, ty, pos, af, some (j, b)⟩) (hy : yieldE l.toArray ρ j = some b)
    (h : Step P ⟨d, op, ty, pos, af, some (j, b)⟩ ρ w (fun v w' => K (updO ρ d v) w')) : opX P l.toArray i ρ w K := opx_on (by simpa using hi) hy h
end anyl

/-! ### The structs of the first layer as lists of cells -/
structure Rg where
  lo : Int
  hi : Int
structure Ld where
  src : Int
  hr : Int
  lo : Int
  hi : Int
  kn : Int
  un : Int
structure Sp where
  src : Int
  kd : Int
  fr : Int
  to : Int
  kn : Int
  un : Int
structure Nt where
  s : Int
  k : Int
  u : Int
def eRg (x : Rg) : List Value := [.int .i64 x.lo, .int .i64 x.hi]
def eLd (x : Ld) : List Value := [.int .i64 x.src, .int .i64 x.hr, .int .i64 x.lo, .int .i64 x.hi, .int .i64 x.kn, .int .i64 x.un]
def eSp (x : Sp) : List Value := [.int .i64 x.src, .int .i64 x.kd, .int .i64 x.fr, .int .i64 x.to, .int .i64 x.kn, .int .i64 x.un]
def eNt (x : Nt) : List Value := [.int .i64 x.s, .int .i64 x.k, .int .i64 x.u]
def eInt (x : Int) : List Value := [.int .i64 x]
theorem eRg_len (x : Rg) : (eRg x).length = 2 := rfl
theorem eLd_len (x : Ld) : (eLd x).length = 6 := rfl
theorem eSp_len (x : Sp) : (eSp x).length = 6 := rfl
theorem eNt_len (x : Nt) : (eNt x).length = 3 := rfl
theorem eInt_len (x : Int) : (eInt x).length = 1 := rfl
/-- The place of the first element for which it is so, or -1. -/
def idxI {α : Type} (p : α → Bool) (l : List α) : Int := match l.findIdx? p with
  | some i => i
  | none => -1
end Go.K
