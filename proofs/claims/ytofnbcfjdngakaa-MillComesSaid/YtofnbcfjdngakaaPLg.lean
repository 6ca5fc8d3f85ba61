/- More operations: bits, shifts, an array's element by a variable, a field of a row's element. No condition. -/
import Derived.Test.YtofnbcfjdngakaaPKK2
namespace Go.K
open Go.RowKit
set_option linter.unusedSimpArgs false
set_option linter.unusedVariables false
def andI (a b : Int) : Int := ((a.toNat &&& b.toNat : Nat) : Int)
def orI (a b : Int) : Int := ((a.toNat ||| b.toNat : Nat) : Int)
def andNotI (a b : Int) : Int := ((a.toNat &&& (18446744073709551615 - b.toNat) : Nat) : Int)
section putf
variable {α : Type} {enc : α → List Value} {k : Nat}
theorem flat_setF (hk : ∀ x, (enc x).length = k) (M : List α) (i no : Nat) {x : α} (y : α) (vs : List Value) (hx : M[i]? = some x) (hv : no + vs.length ≤ k) (he : putCells (enc x) no vs = enc y) : putCells (flat enc M) (i * k + no) vs = flat enc (M.set i y) := by
  have hi : i < M.length := lt_of_get hx
  have h1 : M = M.take i ++ [x] ++ M.drop (i + 1) := by
    have e : M[i] = x := by rw [List.getElem?_eq_getElem hi] at hx; exact Option.some.inj hx
    conv => lhs; rw [← List.take_append_drop i M, List.drop_eq_getElem_cons hi, e]
    simp
  have h2 : M.set i y = M.take i ++ [y] ++ M.drop (i + 1) := by
    rw [List.set_eq_take_append_cons_drop, if_pos hi]; simp
  have hl : (flat enc (M.take i)).length = i * k := by rw [flat_len hk, List.length_take, Nat.min_eq_left (by omega)]
  rw [h2, flat_append, flat_append, flat_one]
  conv => lhs; arg 1; rw [h1, flat_append, flat_append, flat_one]
  rw [List.append_assoc, put_append _ _ _ _ (by omega), hl, show i * k + no - i * k = no by omega, put_left _ _ _ _ (by rw [hk]; exact hv), he, List.append_assoc]
theorem Row.putF {g : Option Nat} {n c : Nat} {cl : List Value} {M : List α} (hr : Row k g n c cl (flat enc M)) (hk : ∀ x, (enc x).length = k) (hk0 : 0 < k) (i no : Nat) {x : α} (y : α) (vs : List Value) (hx : M[i]? = some x) (hv : no + vs.length ≤ k) (he : putCells (enc x) no vs = enc y) (hi : i < n) : Row k g n c (putCells cl (i * k + no) vs) (flat enc (M.set i y)) := by
  have hn := hr.n_eq hk hk0
  have hle : n * k ≤ cl.length := by rw [hr.size]; exact Nat.mul_le_mul_right _ hr.cap
  have hik : i * k + k ≤ n * k := by
    have := Nat.mul_le_mul_right k (show i + 1 ≤ n from hi)
    rwa [Nat.add_mul, Nat.one_mul] at this
  refine ⟨by rw [flat_len hk, List.length_set, hn], hr.cap, hr.capmax, by rw [put_len, hr.size], ?_, hr.nil⟩
  rw [← flat_setF hk M i no y vs hx hv he, ← hr.head]
  have hsplit : cl = cl.take (n * k) ++ cl.drop (n * k) := (List.take_append_drop _ _).symm
  conv => lhs; arg 2; rw [hsplit, put_left _ _ _ _ (by rw [List.length_take, Nat.min_eq_left hle]; omega)]
  rw [List.take_left' (by rw [put_len, List.length_take, Nat.min_eq_left hle])]
theorem Row.roomF {M : List α} {g : Option Nat} {n c : Nat} {cl : List Value} (hr : Row k g n c cl (flat enc M)) {i no s : Nat} (hi : i < n) (hs : no + s ≤ k) : i * k + no + s ≤ cl.length := by
  have := hr.room hi
  omega
end putf
section ops
variable {P : Program} {ρ : Env} {B : List Nat} {w w0 : World} {L : List (Option Nat × Obj)} {R : Value → World → Prop} {d : Option Nat} {ty : TypeId} {pos : String} {af : Array Edge} {gd : Option (Nat × Bool)}
theorem s_bin {o : BinOp} {T Ty : TypeId} {x y : Operand} {a b r : Int} {k2 : IntKind} (ha : ev ρ x = .int .i64 a) (hb : ev ρ y = .int k2 b) (hg : eqGuard o T x y (.int .i64 a) (.int k2 b) = pure ()) (h : ∀ w, (binOp o T (.int .i64 a) (.int k2 b)).run P w = .ok (.int .i64 r) w) (k : R (.int .i64 r) w) : Step P ⟨d, .binOp o T x y Ty, ty, pos, af, gd⟩ ρ w R := by
  refine s_pure (.int .i64 r) ?_ k
  have : execOp (ev ρ) ⟨d, .binOp o T x y Ty, ty, pos, af, gd⟩ = (do pure (.value (← (do eqGuard o T x y (ev ρ x) (ev ρ y); binOp o T (ev ρ x) (ev ρ y))))) := rfl
  rw [this, ha, hb, hg]
  simp only [Sem.run_bind, Sem.run_pure, Result.andThen_ok, h]
theorem s_shl {T Ty : TypeId} {x y : Operand} {a b : Int} (ha : ev ρ x = .int .i64 a) (hb : ev ρ y = .int .i64 b) (h : 0 ≤ b ∧ b ≤ 62) (hr : -9223372036854775808 ≤ a * 2 ^ b.toNat ∧ a * 2 ^ b.toNat ≤ 9223372036854775807) (k : R (.int .i64 (a * 2 ^ b.toNat)) w) : Step P ⟨d, .binOp .shl T x y Ty, ty, pos, af, gd⟩ ρ w R := by
  refine s_bin ha hb rfl (fun w => ?_) k
  have e : binOp .shl T (.int .i64 a) (.int .i64 b) = Op.shift .shl .i64 a .i64 b := rfl
  have hm : min b.toNat IntKind.i64.bits = b.toNat := Nat.min_eq_left (by show b.toNat ≤ 64; omega)
  rw [e]; unfold Op.shift
  rw [if_neg (by omega)]
  show (pure (.int .i64 (IntKind.i64.wrap (a * 2 ^ (min b.toNat IntKind.i64.bits)))) : Sem Value).run P w = _
  rw [hm, wrap_in hr.1 hr.2]; rfl
theorem s_shr {T Ty : TypeId} {x y : Operand} {a b : Int} (ha : ev ρ x = .int .i64 a) (hb : ev ρ y = .int .i64 b) (h : 0 ≤ b ∧ b ≤ 62) (k : R (.int .i64 (a.fdiv (2 ^ b.toNat))) w) : Step P ⟨d, .binOp .shr T x y Ty, ty, pos, af, gd⟩ ρ w R := by
  refine s_bin ha hb rfl (fun w => ?_) k
  have e : binOp .shr T (.int .i64 a) (.int .i64 b) = Op.shift .shr .i64 a .i64 b := rfl
  have hm : min b.toNat IntKind.i64.bits = b.toNat := Nat.min_eq_left (by show b.toNat ≤ 64; omega)
  rw [e]; unfold Op.shift
  rw [if_neg (by omega)]
  show (pure (.int .i64 (a.fdiv (2 ^ (min b.toNat IntKind.i64.bits)))) : Sem Value).run P w = _
  rw [hm]; rfl
theorem bv_nat {a : Int} (h : 0 ≤ a ∧ a ≤ 9223372036854775807) : (BitVec.ofInt 64 a).toNat = a.toNat := by
  rw [BitVec.toNat_ofInt, Int.emod_eq_of_lt h.1 (by omega)]
theorem s_and {T Ty : TypeId} {x y : Operand} {a b : Int} (ha : ev ρ x = .int .i64 a) (hb : ev ρ y = .int .i64 b) (h1 : 0 ≤ a) (h2 : 0 ≤ b) (h3 : -9223372036854775808 ≤ a ∧ a ≤ 9223372036854775807) (h4 : -9223372036854775808 ≤ b ∧ b ≤ 9223372036854775807) (k : R (.int .i64 (andI a b)) w) : Step P ⟨d, .binOp .and T x y Ty, ty, pos, af, gd⟩ ρ w R := by
  refine s_bin ha hb rfl (fun w => ?_) k
  have e : binOp .and T (.int .i64 a) (.int .i64 b) = Op.intBits .and .i64 a b := rfl
  rw [e]
  show (pure (.int .i64 (IntKind.i64.wrap (((BitVec.ofInt 64 a) &&& (BitVec.ofInt 64 b)).toNat : Int))) : Sem Value).run P w = _
  rw [BitVec.toNat_and, bv_nat ⟨h1, h3.2⟩, bv_nat ⟨h2, h4.2⟩]
  have : a.toNat &&& b.toNat ≤ a.toNat := Nat.and_le_left
  rw [wrap_in (by omega) (by omega)]; rfl
theorem s_or {T Ty : TypeId} {x y : Operand} {a b : Int} (ha : ev ρ x = .int .i64 a) (hb : ev ρ y = .int .i64 b) (h1 : 0 ≤ a) (h2 : 0 ≤ b) (h3 : -9223372036854775808 ≤ a ∧ a ≤ 9223372036854775807) (h4 : -9223372036854775808 ≤ b ∧ b ≤ 9223372036854775807) (k : R (.int .i64 (orI a b)) w) : Step P ⟨d, .binOp .or T x y Ty, ty, pos, af, gd⟩ ρ w R := by
  refine s_bin ha hb rfl (fun w => ?_) k
  have e : binOp .or T (.int .i64 a) (.int .i64 b) = Op.intBits .or .i64 a b := rfl
  rw [e]
  show (pure (.int .i64 (IntKind.i64.wrap (((BitVec.ofInt 64 a) ||| (BitVec.ofInt 64 b)).toNat : Int))) : Sem Value).run P w = _
  rw [BitVec.toNat_or, bv_nat ⟨h1, h3.2⟩, bv_nat ⟨h2, h4.2⟩]
  have : a.toNat ||| b.toNat < 2 ^ 63 := Nat.or_lt_two_pow (by omega) (by omega)
  rw [wrap_in (by omega) (by omega)]; rfl
theorem s_andNot {T Ty : TypeId} {x y : Operand} {a b : Int} (ha : ev ρ x = .int .i64 a) (hb : ev ρ y = .int .i64 b) (h1 : 0 ≤ a) (h2 : 0 ≤ b) (h3 : -9223372036854775808 ≤ a ∧ a ≤ 9223372036854775807) (h4 : -9223372036854775808 ≤ b ∧ b ≤ 9223372036854775807) (k : R (.int .i64 (andNotI a b)) w) : Step P ⟨d, .binOp .andNot T x y Ty, ty, pos, af, gd⟩ ρ w R := by
  refine s_bin ha hb rfl (fun w => ?_) k
  have e : binOp .andNot T (.int .i64 a) (.int .i64 b) = Op.intBits .andNot .i64 a b := rfl
  rw [e]
  show (pure (.int .i64 (IntKind.i64.wrap (((BitVec.ofInt 64 a) &&& ~~~ (BitVec.ofInt 64 b)).toNat : Int))) : Sem Value).run P w = _
  rw [BitVec.toNat_and, BitVec.toNat_not, bv_nat ⟨h1, h3.2⟩, bv_nat ⟨h2, h4.2⟩]
  have : a.toNat &&& (18446744073709551615 - b.toNat) ≤ a.toNat := Nat.and_le_left
  rw [show 2 ^ 64 - 1 - b.toNat = 18446744073709551615 - b.toNat from rfl, wrap_in (by omega) (by omega)]; rfl
end ops
end Go.K
