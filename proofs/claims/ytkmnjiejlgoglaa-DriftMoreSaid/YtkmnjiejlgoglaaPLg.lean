/- More operations: bits, shifts, an array's element by a variable, a field of a row's element. No condition. -/
import Derived.Test.YtkmnjiejlgoglaaPKK2
namespace Go.K
open Go.RowKit
set_option linter.unusedSimpArgs false
set_option linter.unusedVariables false
def andI (a b : Int) : Int := ((a.toNat &&& b.toNat : Nat) : Int)
def orI (a b : Int) : Int := ((a.toNat ||| b.toNat : Nat) : Int)
def andNotI (a b : Int) : Int := ((a.toNat &&& (18446744073709551615 - b.toNat) : Nat) : Int)
section putf
variable {α : Type} {enc : α → List Value} {k : Nat}
theorem flat_setF (hk : ∀ x, (enc x).length = k) (M : List α) (i no : Nat) {x : α} (y : α) (vs : List Value) (hx : M[i]? = some x) (hv : no + vs.length ≤ k) (he : putCells (enc x) no vs = enc y) : putCells (flat enc M) (i * k + no) vs = flat enc (M.set i y) := by
  have hi : i < M.length := lt_of_get hx
  have h1 : M = M.take i ++ [x] ++ M.drop (i + 1) := by
    have e : M[i] = x := by rw [List.getElem?_eq_getElem hi] at hx; exact Option.some.inj hx
    conv => lhs; rw [← List.take_append_drop i M, List.drop_eq_getElem_cons hi, e]
    simp
  have h2 : M.set i y = M.take i ++ [y] ++ M.drop (i + 1) := by
    rw [List.set_eq_take_append_cons_drop, if_pos hi]; simp
  have hl : (flat enc (M.take i)).length = i * k := by rw [flat_len hk, List.length_take, Nat.min_eq_left (by omega)]
  rw [h2, flat_append, flat_append, flat_one]
  conv => lhs; arg 1; rw [h1, flat_append, flat_append, flat_one]
  rw [List.append_assoc, put_append _ _ _ _ (by omega), hl, show i * k + no - i * k = no by omega, put_left _ _ _ _ (by rw [hk]; exact hv), he, List.append_assoc]
theorem Row.putF {g : Option Nat} {n c : Nat} {cl : List Value} {M : List α} (hr : Row k g n c cl (flat enc M)) (hk : ∀ x, (enc x).length = k) (hk0 : 0 < k) (i no : Nat) {x : α} (y : α) (vs : List Value) (hx : M[i]? = some x) (hv : no + vs.length ≤ k) (he : putCells (enc x) no vs = enc y) (hi : i < n) : Row k g n c (putCells cl (i * k + no) vs) (flat enc (M.set i y)) := by
  have hn := hr.n_eq hk hk0
  have hle : n * k ≤ cl.length := by rw [hr.size]; exact Nat.mul_le_mul_right _ hr.cap
  have hik : i * k + k ≤ n * k := by
    have := Nat.mul_le_mul_right k (show i + 1 ≤ n from hi)
    rwa [Nat.add_mul, Nat.one_mul] at this
  refine ⟨by rw [flat_len hk, List.length_set, hn], hr.cap, hr.capmax, by rw [put_len, hr.size], ?_, hr.nil⟩
  rw [← flat_setF hk M i no y vs hx hv he, ← hr.head]
  have hsplit : cl = cl.take (n * k) ++ cl.drop (n * k) := (List.take_append_drop _ _).symm
  conv => lhs; arg 2; rw [hsplit, put_left _ _ _ _ (by rw [List.length_take, Nat.min_eq_left hle]; omega)]
  rw [List.take_left' (by rw [put_len, List.length_take, Nat.min_eq_left hle])]
theorem Row.roomF {M : List α} {g : Option Nat} {n c : Nat} {cl : List Value} (hr : Row k g n c cl (flat enc M)) {i no s : Nat} (hi : i < n) (hs : no + s ≤ k) : i * k + no + s ≤ cl.length := by
  have := hr.room hi
  omega
end putf
section ops
variable {P : Program} {ρ : Env} {B : List Nat} {w w0 : World} {L : List (Option Nat × Obj)} {R : Value → World → Prop} {d : Option Nat} {ty : TypeId} {pos : String} {af : Array Edge} {gd : Option (Nat × Bool)}
end ops
end Go.K
