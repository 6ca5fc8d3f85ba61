/-
  The ground of my own proofs: short forms of the commonest steps. No condition.
-/
import Derived.Test.YtinkdlmimiefaaaGreatKg
import Derived.KernelRfl
namespace Go.K
open Go.RowKit
abbrev iv (x : Int) : Value := .int .i64 x
section steps
variable {P : Program} {ρ : Env} {w : World} {d : Option Nat} {ty : TypeId} {pos : String} {af : Array Edge} {ops : Array Oper} {K : Env → World → Prop} {rest : List Oper} {op : Op}
theorem pu (v : Value) (h : (execOp (ev ρ) ⟨d, op, ty, pos, af, none⟩).run P w = .ok (.value v) w) (k : Seq P ops K rest (updO ρ d v) w) : Seq P ops K (⟨d, op, ty, pos, af, none⟩ :: rest) ρ w :=
  seq_c (s_pure v h k)
theorem puo (v : Value) {j : Nat} {b : Bool} (h : yieldE ops ρ j = some b ∧ (execOp (ev ρ) ⟨d, op, ty, pos, af, some (j, b)⟩).run P w = .ok (.value v) w) (k : Seq P ops K rest (updO ρ d v) w) : Seq P ops K (⟨d, op, ty, pos, af, some (j, b)⟩ :: rest) ρ w :=
  seq_on h.1 (s_pure v h.2 k)
theorem of_ {j : Nat} {b : Bool} (hy : yieldE ops ρ j = some (!b)) (k : Seq P ops K rest (updO ρ d undef) w) : Seq P ops K (⟨d, op, ty, pos, af, some (j, b)⟩ :: rest) ρ w :=
  seq_off hy k
end steps
theorem rgn {P : Program} {r : Option Nat} {ds : List Deferred} {n : Nat} {Q : List Deferred → Exit → Env → World → Prop} {ρ : Env} {w : World} {id : Nat} {l : List Oper} (hd : dstsOk n l = true) (h : Seq P l.toArray (Q ds .normal) l ρ w) : WP r ds P n (.region id l.toArray false) Q ρ w := wp_region hd h
section anyl
variable {P : Program} {l : List Oper} {B : Option Nat} {w0 : World} {Lc : List (Option Nat × Obj)} {Q : Env → World → Prop} {fuel : Nat} {listed : Array Bool} {ρ : Env} {L : List (Option Nat × Obj)} {d : Option Nat} {op : Op} {ty : TypeId} {pos : String} {af : Array Edge}
theorem alp (i : Nat) (v : Value) (hsub : ∀ x, Inv B w0 x L → Inv B w0 x Lc) (hi : l[i]? = some ⟨d, op, ty, pos, af, none⟩) (hg : (Region.noSelect l.toArray && goB l.toArray listed i) = true)
    (hl : ∀ w, (execOp (ev ρ) ⟨d, op, ty, pos, af, none⟩).run P w = .ok (.value v) w) (h : AnyE P l.toArray B w0 Lc Q fuel (listed.setIfInBounds i true) (updO ρ d v) L) : AnyE P l.toArray B w0 Lc Q (fuel + 1) listed ρ L :=
  al_light i v hsub hi hg (fun w _ => s_pure v (hl w) ⟨rfl, Below.refl _ _⟩) h
end anyl
end Go.K
