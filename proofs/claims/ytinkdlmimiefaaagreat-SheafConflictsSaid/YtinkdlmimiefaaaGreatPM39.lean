/- Numbers that attain an end; whether a plot is sound. -/
import Derived.Test.YtinkdlmimiefaaaGreatProg
import Derived.Test.YtinkdlmimiefaaaGreatPM36
import Derived.Test.YtinkdlmimiefaaaGreatPG10
namespace Go.K
open Go.Proofs Go.RowKit
set_option linter.unusedVariables false
set_option linter.unusedSimpArgs false
set_option maxRecDepth 100000
attribute [local irreducible] Seq Step CallV AnyE opX

/-- A carting in a block of the call's own making. -/
def GivesCart (e0 : Int) (l : List Int) (w0 : World) (v : Value) (w : World) : Prop := ∃ g c cl, v = .agg #[.int .i64 e0, slv g l.length c] ∧ Inv none w0 w [(g, blk cl 3)] ∧ Row 1 g l.length c cl (flat eInt l)
def NumOf (cs : List Ld) (ts : List Int) (N : Int → Int) : Prop := ∀ (i : Nat) (x : Ld) (a b : Int), cs[i]? = some x → ts[i]? = some a → ts[i + 1]? = some b → N x.src = a - b
theorem ends_len (most : Bool) (S : List Rg) : (endsF most S).length = S.length := by rw [endsF, List.length_map]
def soundC (p : Pl) (dy : Int) : Bool × Int := if dayI p dy = 0 then ((stoodF (scnF p dy) (crtF p dy)).2, 0) else (false, dayI p dy)

theorem Sound_c (w0 : World) (pl : Pl) (pA1 : Option Addr) (pn1 pc1 : Nat) (pA2 : Option Addr) (pn2 pc2 : Nat) (pA3 : Option Addr) (pn3 pc3 : Nat) (hP : PlotIn w0 pl pA1 pn1 pA2 pn2 pA3 pn3) (dy : Int) (hn19 : pl.loads.length < 20) : Does Tryz.prog 30 [.agg #[.int .i64 pl.lo, .int .i64 pl.hi, .slice pA1 pn1 pc1, .slice pA2 pn2 pc2, .slice pA3 pn3 pc3, .int .i64 pl.geese], .int .i64 dy] w0 fun v w => v = .tuple #[.bool (soundC pl dy).1, .int .i64 (soundC pl dy).2] ∧ Below w0.heap.size w0 w := by
 have hm1 := hP.m1; have hm2 := hP.m2; have hm3 := hP.m3
 refine calls_of (n := 17) Tryz.func30 rfl Tryz.ntmps30 rfl ?_
 have hI := Inv.start w0
 refine wp_seq (rgn (by kernel_rfl) (seq_c (s_boxI hI [iv pl.lo, iv pl.hi, .slice pA1 pn1 pc1, .slice pA2 pn2 pc2, .slice pA3 pn3 pc3, iv pl.geese] rfl ?_)))
 intro b1 w hI
 refine pu (.bool false) (by kernel_rfl) (pu (iv 0) (by kernel_rfl) (seq_nil (wp_seq (wp_seq (rgn (by kernel_rfl) (seq_c (s_loadK hI 0 6 [iv pl.lo, iv pl.hi, .slice pA1 pn1 pc1, .slice pA2 pn2 pc2, .slice pA3 pn3 pc3, iv pl.geese] Tryz.isAgg28 Tryz.sizeOf28 rfl rfl rfl rfl ?_)))))))
 refine pu (iv dy) (by kernel_rfl) (seq_c (s_callv hI 85 [.agg #[iv pl.lo, iv pl.hi, .slice pA1 pn1 pc1, .slice pA2 pn2 pc2, .slice pA3 pn3 pc3, iv pl.geese], iv dy] (iv (dayI pl dy)) (by kernel_rfl) (checkDay_c _ pl pA1 pn1 pc1 pA2 pn2 pc2 pA3 pn3 pc3 (hP.inv0 hI) dy) ?_))
 intro w hI
 refine pu (iv (dayI pl dy)) (by kernel_rfl) (seq_nil (wp_seq (rgn (by kernel_rfl) (pu (iv (dayI pl dy)) (by kernel_rfl) (seq_c (s_neq rfl rfl ?_ ?_))))))
 ·intro h1
  refine seq_nil (wp_condT rfl (wp_seq (rgn (by kernel_rfl) (pu (iv (dayI pl dy)) (by kernel_rfl) (pu (.bool false) (by kernel_rfl) (pu (iv (dayI pl dy)) (by kernel_rfl) (seq_nil (wp_ret ?_))))))))
  exact ⟨.tuple #[.bool false, iv (dayI pl dy)], Ret.r2 rfl rfl rfl, ⟨by simp [soundC, h1], hI.below⟩⟩
 ·intro h2
  refine seq_nil (wp_condF rfl (wp_skip (wp_seq (rgn (by kernel_rfl) (seq_c (s_loadK hI 0 6 [iv pl.lo, iv pl.hi, .slice pA1 pn1 pc1, .slice pA2 pn2 pc2, .slice pA3 pn3 pc3, iv pl.geese] Tryz.isAgg28 Tryz.sizeOf28 rfl rfl rfl rfl ?_))))))
  refine pu (iv dy) (by kernel_rfl) ?_
  have hsl := scn_len pl dy; obtain ⟨hsl1, hsl2, hsl3⟩ := hsl; have hsc := crt_len pl dy; have hok_ := plotB_small (dayI_ok h2).1; have hok1 := hok_.s1; have hok2 := hok_.s2; have hok3 := hok_.s3
  refine seq_c (s_callScene hI (q := scnF pl dy) (cs := crtF pl dy) 86 [.agg #[iv pl.lo, iv pl.hi, .slice pA1 pn1 pc1, .slice pA2 pn2 pc2, .slice pA3 pn3 pc3, iv pl.geese], iv dy] (by kernel_rfl) (sceneOf_c _ pl pA1 pn1 pc1 pA2 pn2 pc2 pA3 pn3 pc3 (hP.inv0 hI) (plotB_small (dayI_ok h2).1) dy (by omega)) ?_)
  intro g2 c3 cl4 g6 c7 cl8 g10 c11 cl12 g14 c15 cl16 w hI r5 r9 r13 r17
  refine seq_c (s_callv hI 87 [.agg #[iv (scnF pl dy).lo, iv (scnF pl dy).hi, slv g2 (scnF pl dy).loads.length c3, slv g6 (scnF pl dy).stands.length c7, slv g10 (scnF pl dy).spells.length c11, iv (scnF pl dy).geese, slv g14 (crtF pl dy).length c15]] (.bool ((stoodF (scnF pl dy) (crtF pl dy)).2)) (by kernel_rfl) (sound_c _ (scnF pl dy) (g2.map fun b => ⟨b, 0, none⟩) (scnF pl dy).loads.length c3 (g6.map fun b => ⟨b, 0, none⟩) (scnF pl dy).stands.length c7 (g10.map fun b => ⟨b, 0, none⟩) (scnF pl dy).spells.length c11 (crtF pl dy) (g14.map fun b => ⟨b, 0, none⟩) (crtF pl dy).length c15 ⟨⟨(hI.rowCells 0 rfl r5), rfl, (hI.rowCells 1 rfl r9), rfl, (hI.rowCells 2 rfl r13), rfl, (by omega), (by omega), (by omega)⟩, (hI.rowCells 3 rfl r17), rfl, r17.cap, (by omega), (by omega), (by omega), (by omega)⟩ (scn_ok (dayI_ok h2).1 dy)) ?_)
  intro w hI
  refine pu (.bool ((stoodF (scnF pl dy) (crtF pl dy)).2)) (by kernel_rfl) (pu (iv 0) (by kernel_rfl) (seq_nil (wp_ret ?_)))
  exact ⟨.tuple #[.bool ((stoodF (scnF pl dy) (crtF pl dy)).2), iv 0], Ret.r2 rfl rfl rfl, ⟨by simp [soundC, h2], hI.below⟩⟩

end Go.K
