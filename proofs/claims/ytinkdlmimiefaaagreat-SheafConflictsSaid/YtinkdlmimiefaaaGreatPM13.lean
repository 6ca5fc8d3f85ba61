/- Scenes: what is asked of them. -/
import Derived.Test.YtinkdlmimiefaaaGreatProg
import Derived.Test.YtinkdlmimiefaaaGreatPM12
namespace Go.K
open Go.Proofs Go.RowKit
set_option linter.unusedVariables false
set_option linter.unusedSimpArgs false
set_option maxRecDepth 100000
attribute [local irreducible] Seq Step CallV AnyE opX

section steps
variable {P : Program} {ρ : Env} {w : World} {R : Value → World → Prop} {d : Option Nat} {ty : TypeId} {pos : String} {af : Array Edge} {gd : Option (Nat × Bool)}
end steps
def stoodAtF (p : Pl) (cs : List Ld) (h : Int) : Rg × Bool := if (stoodF p cs).2 then ((stoodF p cs).1.getD (cartF cs h) ⟨0, 0⟩, true) else (⟨0, 0⟩, false)
def placeF (cs : List Ld) (s : Int) : Int × Bool := if 0 ≤ idxI (fun x : Ld => decide (x.src = s)) cs then (idxI (fun x : Ld => decide (x.src = s)) cs, true) else (0, false)
def shutF (p : Pl) (h : Int) : Bool := decide (h % 24 < 8) || decide (19 ≤ h % 24) || p.spells.any fun x => decide (x.fr ≤ h) && decide (h ≤ x.to)
def geeseF (p : Pl) (h : Int) : Int × Bool := (h - 24 * p.geese, decide (0 < p.geese) && decide (0 ≤ h - 24 * p.geese))
def withF (p : Pl) (h lo hi : Int) : Pl := { p with stands := p.stands ++ [⟨0, h, lo, hi, 0, 0⟩] }


theorem sound_c (w0 : World) (pl : Pl) (pA1 : Option Addr) (pn1 pc1 : Nat) (pA2 : Option Addr) (pn2 pc2 : Nat) (pA3 : Option Addr) (pn3 pc3 : Nat) (cs : List Ld) (pA4 : Option Addr) (pn4 pc4 : Nat) (hSc : ScIn w0 pl pA1 pn1 pc1 pA2 pn2 pc2 pA3 pn3 pc3 cs pA4 pn4 pc4) (hok : ScOk pl cs) : Does Tryz.prog 87 [.agg #[.int .i64 pl.lo, .int .i64 pl.hi, .slice pA1 pn1 pc1, .slice pA2 pn2 pc2, .slice pA3 pn3 pc3, .int .i64 pl.geese, .slice pA4 pn4 pc4]] w0 fun v w => v = .bool (stoodF pl cs).2 ∧ Below w0.heap.size w0 w := by
 have hm1 := hSc.p.m1; have hm2 := hSc.p.m2; have hm3 := hSc.p.m3; have hm4 := hSc.m4; have hk4 := hSc.k4; have hz1 := hSc.z1; have hz2 := hSc.z2; have hz3 := hSc.z3; have hz4 := hSc.z4
 refine calls_of (n := 11) Tryz.func87 rfl Tryz.ntmps87 rfl ?_
 have hI := Inv.start w0
 refine wp_seq (rgn (by kernel_rfl) (seq_c (s_boxI hI [iv pl.lo, iv pl.hi, .slice pA1 pn1 pc1, .slice pA2 pn2 pc2, .slice pA3 pn3 pc3, iv pl.geese, .slice pA4 pn4 pc4] rfl ?_)))
 intro b1 w hI
 refine pu (.bool false) (by kernel_rfl) (seq_nil (wp_seq (rgn (by kernel_rfl) (seq_c (s_loadK hI 0 7 [iv pl.lo, iv pl.hi, .slice pA1 pn1 pc1, .slice pA2 pn2 pc2, .slice pA3 pn3 pc3, iv pl.geese, .slice pA4 pn4 pc4] Tryz.isAgg116 Tryz.sizeOf116 rfl rfl rfl rfl ?_)))))
 rcases Bool.eq_false_or_eq_true (stoodF pl cs).2 with h1 | h1
 ·
  refine seq_c (s_callNewF hI 102 [.agg #[iv pl.lo, iv pl.hi, .slice pA1 pn1 pc1, .slice pA2 pn2 pc2, .slice pA3 pn3 pc3, iv pl.geese, .slice pA4 pn4 pc4]] (fun v1 => .tuple #[v1, .bool true]) (by kernel_rfl) (Does.mono (stood_c _ pl pA1 pn1 pc1 pA2 pn2 pc2 pA3 pn3 pc3 cs pA4 pn4 pc4 (hSc.inv0 hI) hok) (fun v w' ⟨v1, e1, e2⟩ => ⟨v1, by rw [e1, h1], e2⟩)) ?_)
  intro g2 c3 cl4 w hI r5
  have r5 : Row 2 g2 (stoodF pl cs).1.length c3 cl4 (flat eRg (stoodF pl cs).1) := r5
  have hsl := stoodF_len h1
  refine pu (.tuple #[slv g2 (stoodF pl cs).1.length c3, .bool true]) (by kernel_rfl) (pu (slv g2 (stoodF pl cs).1.length c3) (by kernel_rfl) (pu (.bool true) (by kernel_rfl) (pu (slv g2 (stoodF pl cs).1.length c3) (by kernel_rfl) (pu (.bool true) (by kernel_rfl) (seq_nil (wp_seq (rgn (by kernel_rfl) (pu (.bool true) (by kernel_rfl) (pu (.bool true) (by kernel_rfl) ?_)))))))))
  refine seq_nil (wp_ret ?_)
  exact ⟨.bool true, Ret.r1 rfl rfl, ⟨by rw [h1], hI.below⟩⟩
 ·
  refine seq_c (s_callNewF hI 102 [.agg #[iv pl.lo, iv pl.hi, .slice pA1 pn1 pc1, .slice pA2 pn2 pc2, .slice pA3 pn3 pc3, iv pl.geese, .slice pA4 pn4 pc4]] (fun v1 => .tuple #[v1, .bool false]) (by kernel_rfl) (Does.mono (stood_c _ pl pA1 pn1 pc1 pA2 pn2 pc2 pA3 pn3 pc3 cs pA4 pn4 pc4 (hSc.inv0 hI) hok) (fun v w' ⟨v1, e1, e2⟩ => ⟨v1, by rw [e1, h1], e2⟩)) ?_)
  intro g6 c7 cl8 w hI r9
  have r9 : Row 2 g6 (stoodF pl cs).1.length c7 cl8 (flat eRg (stoodF pl cs).1) := r9
  refine pu (.tuple #[slv g6 (stoodF pl cs).1.length c7, .bool false]) (by kernel_rfl) (pu (slv g6 (stoodF pl cs).1.length c7) (by kernel_rfl) (pu (.bool false) (by kernel_rfl) (pu (slv g6 (stoodF pl cs).1.length c7) (by kernel_rfl) (pu (.bool false) (by kernel_rfl) (seq_nil (wp_seq (rgn (by kernel_rfl) (pu (.bool false) (by kernel_rfl) (pu (.bool false) (by kernel_rfl) ?_)))))))))
  refine seq_nil (wp_ret ?_)
  exact ⟨.bool false, Ret.r1 rfl rfl, ⟨by rw [h1], hI.below⟩⟩


end Go.K
