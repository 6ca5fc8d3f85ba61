/-
  The ground of my own proofs, third part: cuts, comparisons that part the way, slices. No condition.
-/
import Derived.Test.YtinkdlmimiefaaaGreatKb
namespace Go.K
open Go.RowKit

/-- What is known of the slots. -/
def Agree (ρ : Env) : List (Nat × Value) → Prop
  | [] => True
  | (t, v) :: l => ρ t = v ∧ Agree ρ l
def updL (ρ : Env) : List (Nat × Value) → Env
  | [] => ρ
  | (t, v) :: l => upd (updL ρ l) t v
theorem upd_self {ρ : Env} {t : Nat} {v : Value} (h : ρ t = v) : upd ρ t v = ρ := by
  funext s
  by_cases e : s = t
  · subst e; rw [upd_same, h]
  · exact upd_ne ρ v e
theorem Agree.updL_eq {ρ : Env} : ∀ {l : List (Nat × Value)}, Agree ρ l → updL ρ l = ρ
  | [], _ => rfl
  | (t, v) :: l, h => by
    show upd (updL ρ l) t v = ρ
    rw [Agree.updL_eq h.2, upd_self h.1]
theorem Agree.form {ρ : Env} {l : List (Nat × Value)} (h : Agree ρ l) : ∃ ρr, ρ = updL ρr l := ⟨ρ, h.updL_eq.symm⟩

def pickL (L : List (Option Nat × Obj)) : List Nat → Option (List (Option Nat × Obj))
  | [] => some []
  | i :: l => match L[i]?, pickL L l with
    | some x, some xs => some (x :: xs)
    | _, _ => none
theorem pickL_get {L : List (Option Nat × Obj)} : ∀ {l : List Nat} {L' : List (Option Nat × Obj)}, pickL L l = some L' → ∀ (i : Nat) x, L'[i]? = some x → ∃ j, l[i]? = some j ∧ L[j]? = some x
  | [], L', h, i, x, hx => by
    simp only [pickL, Option.some.injEq] at h
    subst h
    simp at hx
  | j :: l, L', h, i, x, hx => by
    simp only [pickL] at h
    split at h
    · rename_i y ys hy hys
      simp only [Option.some.injEq] at h
      subst h
      cases i with
      | zero => exact ⟨j, rfl, by simpa [hy] using hx⟩
      | succ i =>
        obtain ⟨k, h1, h2⟩ := pickL_get hys i x (by simpa using hx)
        exact ⟨k, by simpa using h1, h2⟩
    · cases h
theorem Inv.pickL {B : Option Nat} {w0 w : World} {L L' : List (Option Nat × Obj)} (h : Inv B w0 w L) (l : List Nat) (hn : l.Nodup) (hL : K.pickL L l = some L') : Inv B w0 w L' := h.pick l hn (pickL_get hL)

section steps
variable {P : Program} {ρ : Env} {B : Option Nat} {w w0 : World} {L : List (Option Nat × Obj)} {R : Value → World → Prop} {d : Option Nat} {ty : TypeId} {pos : String} {af : Array Edge} {gd : Option (Nat × Bool)}

/-- A test that parts the way. -/
theorem s_lss {T Ty : TypeId} {x y : Operand} {a b : Int} (ha : ev ρ x = .int .i64 a) (hb : ev ρ y = .int .i64 b) (k1 : a < b → R (.bool true) w) (k2 : ¬ a < b → R (.bool false) w) :
    Step P ⟨d, .binOp .lss T x y Ty, ty, pos, af, gd⟩ ρ w R := by
  refine s_pure (.bool (decide (a < b))) ?_ ?_
  · have : execOp (ev ρ) ⟨d, .binOp .lss T x y Ty, ty, pos, af, gd⟩ = (do pure (.value (← (do eqGuard .lss T x y (ev ρ x) (ev ρ y); binOp .lss T (ev ρ x) (ev ρ y))))) := rfl
    rw [this, ha, hb]; rfl
  · by_cases h : a < b
    · rw [decide_eq_true h]; exact k1 h
    · rw [decide_eq_false h]; exact k2 h
theorem s_leq {T Ty : TypeId} {x y : Operand} {a b : Int} (ha : ev ρ x = .int .i64 a) (hb : ev ρ y = .int .i64 b) (k1 : a ≤ b → R (.bool true) w) (k2 : ¬ a ≤ b → R (.bool false) w) :
    Step P ⟨d, .binOp .leq T x y Ty, ty, pos, af, gd⟩ ρ w R := by
  refine s_pure (.bool (decide (a ≤ b))) ?_ ?_
  · have : execOp (ev ρ) ⟨d, .binOp .leq T x y Ty, ty, pos, af, gd⟩ = (do pure (.value (← (do eqGuard .leq T x y (ev ρ x) (ev ρ y); binOp .leq T (ev ρ x) (ev ρ y))))) := rfl
    rw [this, ha, hb]; rfl
  · by_cases h : a ≤ b
    · rw [decide_eq_true h]; exact k1 h
    · rw [decide_eq_false h]; exact k2 h
theorem s_gtr {T Ty : TypeId} {x y : Operand} {a b : Int} (ha : ev ρ x = .int .i64 a) (hb : ev ρ y = .int .i64 b) (k1 : b < a → R (.bool true) w) (k2 : ¬ b < a → R (.bool false) w) :
    Step P ⟨d, .binOp .gtr T x y Ty, ty, pos, af, gd⟩ ρ w R := by
  refine s_pure (.bool (decide (b < a))) ?_ ?_
  · have : execOp (ev ρ) ⟨d, .binOp .gtr T x y Ty, ty, pos, af, gd⟩ = (do pure (.value (← (do eqGuard .gtr T x y (ev ρ x) (ev ρ y); binOp .gtr T (ev ρ x) (ev ρ y))))) := rfl
    rw [this, ha, hb]; rfl
  · by_cases h : b < a
    · rw [decide_eq_true h]; exact k1 h
    · rw [decide_eq_false h]; exact k2 h
theorem s_geq {T Ty : TypeId} {x y : Operand} {a b : Int} (ha : ev ρ x = .int .i64 a) (hb : ev ρ y = .int .i64 b) (k1 : b ≤ a → R (.bool true) w) (k2 : ¬ b ≤ a → R (.bool false) w) :
    Step P ⟨d, .binOp .geq T x y Ty, ty, pos, af, gd⟩ ρ w R := by
  refine s_pure (.bool (decide (b ≤ a))) ?_ ?_
  · have : execOp (ev ρ) ⟨d, .binOp .geq T x y Ty, ty, pos, af, gd⟩ = (do pure (.value (← (do eqGuard .geq T x y (ev ρ x) (ev ρ y); binOp .geq T (ev ρ x) (ev ρ y))))) := rfl
    rw [this, ha, hb]; rfl
  · by_cases h : b ≤ a
    · rw [decide_eq_true h]; exact k1 h
    · rw [decide_eq_false h]; exact k2 h
theorem s_eql {T Ty : TypeId} {x y : Operand} {a b : Int} (ha : ev ρ x = .int .i64 a) (hb : ev ρ y = .int .i64 b) (k1 : a = b → R (.bool true) w) (k2 : ¬ a = b → R (.bool false) w) :
    Step P ⟨d, .binOp .eql T x y Ty, ty, pos, af, gd⟩ ρ w R := by
  refine s_pure (.bool (a == b)) ?_ ?_
  · have : execOp (ev ρ) ⟨d, .binOp .eql T x y Ty, ty, pos, af, gd⟩ = (do pure (.value (← (do eqGuard .eql T x y (ev ρ x) (ev ρ y); binOp .eql T (ev ρ x) (ev ρ y))))) := rfl
    rw [this, ha, hb]; rfl
  · by_cases h : a = b
    · rw [beq_iff_eq.2 h]; exact k1 h
    · rw [beq_eq_false_iff_ne.2 h]; exact k2 h
theorem s_neq {T Ty : TypeId} {x y : Operand} {a b : Int} (ha : ev ρ x = .int .i64 a) (hb : ev ρ y = .int .i64 b) (k1 : ¬ a = b → R (.bool true) w) (k2 : a = b → R (.bool false) w) :
    Step P ⟨d, .binOp .neq T x y Ty, ty, pos, af, gd⟩ ρ w R := by
  refine s_pure (.bool (a != b)) ?_ ?_
  · have : execOp (ev ρ) ⟨d, .binOp .neq T x y Ty, ty, pos, af, gd⟩ = (do pure (.value (← (do eqGuard .neq T x y (ev ρ x) (ev ρ y); binOp .neq T (ev ρ x) (ev ρ y))))) := rfl
    rw [this, ha, hb]; rfl
  · by_cases h : a = b
    · rw [show (a != b) = false by simp [h]]; exact k2 h
    · rw [show (a != b) = true by simp [h]]; exact k1 h

/-- A call that answers yes or no. -/
theorem s_callb (hI : Inv B w0 w L) {o : Oper} (f : FuncId) (args : List Value) (b : Bool) (h : (execOp (ev ρ) o).run P w = .ok (.enter f args.toArray) w) (hc : Does P f args w fun v' w' => v' = .bool b ∧ Below w.heap.size w w')
    (k1 : b = true → ∀ w', Inv B w0 w' L → R (.bool true) w') (k2 : b = false → ∀ w', Inv B w0 w' L → R (.bool false) w') : Step P o ρ w R :=
  s_call f args h hc fun v' w' ⟨hv, hb⟩ => by
    subst hv
    cases hbb : b with
    | true => exact k1 hbb w' (hI.call hb)
    | false => exact k2 hbb w' (hI.call hb)

theorem seq_offN {ops : Array Oper} {K : Env → World → Prop} {rest : List Oper} {op : Op} {j : Nat} {b : Bool} (hy : yieldE ops ρ j = none)
    (h : Seq P ops K rest (updO ρ d undef) w) : Seq P ops K (⟨d, op, ty, pos, af, some (j, b)⟩ :: rest) ρ w := by
  unfold Seq
  have : Region.wanted ⟨d, op, ty, pos, af, some (j, b)⟩ (yieldE ops ρ) = false := by simp [Region.wanted, hy]
  rw [this]; exact h
theorem wp_condT {r : Option Nat} {ds : List Deferred} {n : Nat} {Q : List Deferred → Exit → Env → World → Prop} {c : Operand} {x y : Code} (hc : ev ρ c = .bool true) (h : WP r ds P n x Q ρ w) : WP r ds P n (.cond c x y) Q ρ w := wp_cond hc (fun _ => h) (fun h => by cases h)
theorem wp_condF {r : Option Nat} {ds : List Deferred} {n : Nat} {Q : List Deferred → Exit → Env → World → Prop} {c : Operand} {x y : Code} (hc : ev ρ c = .bool false) (h : WP r ds P n y Q ρ w) : WP r ds P n (.cond c x y) Q ρ w := wp_cond hc (fun h => by cases h) (fun _ => h)
end steps
end Go.K
