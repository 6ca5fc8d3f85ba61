/- The law of checks: the walk. -/
import Derived.Test.YtinkdlmimiefaaaGreatProg
import Derived.Test.YtinkdlmimiefaaaGreatM25
namespace Go.K
open Go.Proofs Go.RowKit
set_option linter.unusedVariables false
set_option linter.unusedSimpArgs false
set_option maxRecDepth 100000
attribute [local irreducible] Seq Step CallV AnyE opX

section steps
variable {P : Program} {ρ : Env} {w : World} {R : Value → World → Prop} {d : Option Nat} {ty : TypeId} {pos : String} {af : Array Edge} {gd : Option (Nat × Bool)}
theorem s_eqlS {T Ty : TypeId} {x y : Operand} {a : Int} (ha : ev ρ x = .int .i64 a) (hb : ev ρ y = .int .i64 a) (k : R (.bool true) w) : Step P ⟨d, .binOp .eql T x y Ty, ty, pos, af, gd⟩ ρ w R :=
  s_eql ha hb (fun _ => k) (fun h => absurd rfl h)
theorem s_neqS {T Ty : TypeId} {x y : Operand} {a : Int} (ha : ev ρ x = .int .i64 a) (hb : ev ρ y = .int .i64 a) (k : R (.bool false) w) : Step P ⟨d, .binOp .neq T x y Ty, ty, pos, af, gd⟩ ρ w R :=
  s_neq ha hb (fun h => absurd rfl h) (fun _ => k)
end steps

set_option maxHeartbeats 3200000 in
theorem SheafChecks_c (w0 : World) (pl : Pl) (pA1 : Option Addr) (pn1 pc1 : Nat) (pA2 : Option Addr) (pn2 pc2 : Nat) (pA3 : Option Addr) (pn3 pc3 : Nat) (hP : PlotIn w0 pl pA1 pn1 pA2 pn2 pA3 pn3) (hcap2 : pn2 ≤ pc2) (ll xx : Ld) (sp : Sp) (s0 : Int) : Does Tryz.prog 3 [.agg #[.int .i64 pl.lo, .int .i64 pl.hi, .slice pA1 pn1 pc1, .slice pA2 pn2 pc2, .slice pA3 pn3 pc3, .int .i64 pl.geese], .agg #[.int .i64 ll.src, .int .i64 ll.hr, .int .i64 ll.lo, .int .i64 ll.hi, .int .i64 ll.kn, .int .i64 ll.un, .int .i64 xx.src, .int .i64 xx.hr, .int .i64 xx.lo, .int .i64 xx.hi, .int .i64 xx.kn, .int .i64 xx.un, .int .i64 sp.src, .int .i64 sp.kd, .int .i64 sp.fr, .int .i64 sp.to, .int .i64 sp.kn, .int .i64 sp.un], .int .i64 s0] w0 fun v w => v = .bool true ∧ Below w0.heap.size w0 w := by
 have hm1 := hP.m1; have hm2 := hP.m2; have hm3 := hP.m3
 refine calls_of (n := 130) Tryz.func3 rfl Tryz.ntmps3 rfl ?_
 have hI := Inv.start w0
 refine wp_seq (rgn (by kernel_rfl) (seq_c (s_boxI hI [iv pl.lo, iv pl.hi, .slice pA1 pn1 pc1, .slice pA2 pn2 pc2, .slice pA3 pn3 pc3, iv pl.geese] rfl ?_)))
 intro b1 w hI
 refine seq_c (s_boxI hI [iv ll.src, iv ll.hr, iv ll.lo, iv ll.hi, iv ll.kn, iv ll.un, iv xx.src, iv xx.hr, iv xx.lo, iv xx.hi, iv xx.kn, iv xx.un, iv sp.src, iv sp.kd, iv sp.fr, iv sp.to, iv sp.kn, iv sp.un] rfl ?_)
 intro b2 w hI
 refine pu (.bool false) (by kernel_rfl) (seq_nil (wp_seq (rgn (by kernel_rfl) (seq_c (s_callv hI 13 [] (.bool true) (by kernel_rfl) (sane_c _) ?_)))))
 intro w hI
 refine pu (.bool true) (by kernel_rfl) (seq_nil (wp_seq (rgn (by kernel_rfl) (seq_c (s_loadK hI 1 6 [iv pl.lo, iv pl.hi, .slice pA1 pn1 pc1, .slice pA2 pn2 pc2, .slice pA3 pn3 pc3, iv pl.geese] Tryz.isAgg28 Tryz.sizeOf28 rfl rfl rfl rfl ?_)))))
 refine pu (.pointer (some ⟨b2, 6, none⟩)) (by kernel_rfl) (seq_c (s_loadK hI 0 6 [iv xx.src, iv xx.hr, iv xx.lo, iv xx.hi, iv xx.kn, iv xx.un] Tryz.isAgg31 Tryz.sizeOf31 rfl rfl rfl rfl ?_))
 refine seq_c (s_callPlotT hI (q := (standsF pl xx).1) 14 [.agg #[iv pl.lo, iv pl.hi, .slice pA1 pn1 pc1, .slice pA2 pn2 pc2, .slice pA3 pn3 pc3, iv pl.geese], .agg #[iv xx.src, iv xx.hr, iv xx.lo, iv xx.hi, iv xx.kn, iv xx.un]] (by kernel_rfl) (Stands_c _ pl pA1 pn1 pc1 pA2 pn2 pc2 pA3 pn3 pc3 (hP.inv0 hI) xx) ?_)
 intro g3 c4 cl5 g7 c8 cl9 g11 c12 cl13 w hI r6 r10 r14
 refine pu (.tuple #[.agg #[iv ((standsF pl xx).1.lo), iv ((standsF pl xx).1.hi), slv g3 ((standsF pl xx).1.loads.length) c4, slv g7 ((standsF pl xx).1.stands.length) c8, slv g11 ((standsF pl xx).1.spells.length) c12, iv ((standsF pl xx).1.geese)], iv (standsF pl xx).2]) (by kernel_rfl) (pu (.agg #[iv ((standsF pl xx).1.lo), iv ((standsF pl xx).1.hi), slv g3 ((standsF pl xx).1.loads.length) c4, slv g7 ((standsF pl xx).1.stands.length) c8, slv g11 ((standsF pl xx).1.spells.length) c12, iv ((standsF pl xx).1.geese)]) (by kernel_rfl) (pu (iv (standsF pl xx).2) (by kernel_rfl) (seq_c (s_allocI hI [iv 0, iv 0, .slice none 0 0, .slice none 0 0, .slice none 0 0, iv 0] Tryz.zeroValue28 rfl ?_))))
 intro b15 w hI
 refine seq_c (s_store hI 0 6 [iv ((standsF pl xx).1.lo), iv ((standsF pl xx).1.hi), slv g3 ((standsF pl xx).1.loads.length) c4, slv g7 ((standsF pl xx).1.stands.length) c8, slv g11 ((standsF pl xx).1.spells.length) c12, iv ((standsF pl xx).1.geese)] Tryz.sizeOf28 rfl rfl rfl rfl rfl (Nat.le_of_ble_eq_true rfl) ?_)
 intro w hI
 refine pu (iv (standsF pl xx).2) (by kernel_rfl) (seq_nil (wp_seq (rgn (by kernel_rfl) (seq_c (s_loadK hI 5 6 [iv pl.lo, iv pl.hi, .slice pA1 pn1 pc1, .slice pA2 pn2 pc2, .slice pA3 pn3 pc3, iv pl.geese] Tryz.isAgg28 Tryz.sizeOf28 rfl rfl rfl rfl ?_)))))
 refine pu (.pointer (some ⟨b2, 6, none⟩)) (by kernel_rfl) (seq_c (s_loadK hI 4 6 [iv xx.src, iv xx.hr, iv xx.lo, iv xx.hi, iv xx.kn, iv xx.un] Tryz.isAgg31 Tryz.sizeOf31 rfl rfl rfl rfl ?_))
 refine seq_c (s_callPlotT hI (q := (standsF pl xx).1) 15 [.agg #[iv pl.lo, iv pl.hi, .slice pA1 pn1 pc1, .slice pA2 pn2 pc2, .slice pA3 pn3 pc3, iv pl.geese], .agg #[iv xx.src, iv xx.hr, iv xx.lo, iv xx.hi, iv xx.kn, iv xx.un]] (by kernel_rfl) (RefStands_c _ pl pA1 pn1 pc1 pA2 pn2 pc2 pA3 pn3 pc3 (hP.inv0 hI) hcap2 xx) ?_)
 intro g16 c17 cl18 g20 c21 cl22 g24 c25 cl26 w hI r19 r23 r27
 refine pu (.tuple #[.agg #[iv ((standsF pl xx).1.lo), iv ((standsF pl xx).1.hi), slv g16 ((standsF pl xx).1.loads.length) c17, slv g20 ((standsF pl xx).1.stands.length) c21, slv g24 ((standsF pl xx).1.spells.length) c25, iv ((standsF pl xx).1.geese)], iv (standsF pl xx).2]) (by kernel_rfl) (pu (.agg #[iv ((standsF pl xx).1.lo), iv ((standsF pl xx).1.hi), slv g16 ((standsF pl xx).1.loads.length) c17, slv g20 ((standsF pl xx).1.stands.length) c21, slv g24 ((standsF pl xx).1.spells.length) c25, iv ((standsF pl xx).1.geese)]) (by kernel_rfl) (pu (iv (standsF pl xx).2) (by kernel_rfl) (seq_c (s_allocI hI [iv 0, iv 0, .slice none 0 0, .slice none 0 0, .slice none 0 0, iv 0] Tryz.zeroValue28 rfl ?_))))
 intro b28 w hI
 refine seq_c (s_store hI 0 6 [iv ((standsF pl xx).1.lo), iv ((standsF pl xx).1.hi), slv g16 ((standsF pl xx).1.loads.length) c17, slv g20 ((standsF pl xx).1.stands.length) c21, slv g24 ((standsF pl xx).1.spells.length) c25, iv ((standsF pl xx).1.geese)] Tryz.sizeOf28 rfl rfl rfl rfl rfl (Nat.le_of_ble_eq_true rfl) ?_)
 intro w hI
 refine pu (iv (standsF pl xx).2) (by kernel_rfl) (seq_nil (wp_seq (rgn (by kernel_rfl) (seq_c (s_loadK hI 9 6 [iv pl.lo, iv pl.hi, .slice pA1 pn1 pc1, .slice pA2 pn2 pc2, .slice pA3 pn3 pc3, iv pl.geese] Tryz.isAgg28 Tryz.sizeOf28 rfl rfl rfl rfl ?_)))))
 refine pu (iv s0) (by kernel_rfl) (seq_c (s_callPlotT hI (q := (withoutF pl s0).1) 16 [.agg #[iv pl.lo, iv pl.hi, .slice pA1 pn1 pc1, .slice pA2 pn2 pc2, .slice pA3 pn3 pc3, iv pl.geese], iv s0] (by kernel_rfl) (Without_c _ pl pA1 pn1 pc1 pA2 pn2 pc2 pA3 pn3 pc3 (hP.inv0 hI) s0) ?_))
 intro g29 c30 cl31 g33 c34 cl35 g37 c38 cl39 w hI r32 r36 r40
 refine pu (.tuple #[.agg #[iv ((withoutF pl s0).1.lo), iv ((withoutF pl s0).1.hi), slv g29 ((withoutF pl s0).1.loads.length) c30, slv g33 ((withoutF pl s0).1.stands.length) c34, slv g37 ((withoutF pl s0).1.spells.length) c38, iv ((withoutF pl s0).1.geese)], iv (withoutF pl s0).2]) (by kernel_rfl) (pu (.agg #[iv ((withoutF pl s0).1.lo), iv ((withoutF pl s0).1.hi), slv g29 ((withoutF pl s0).1.loads.length) c30, slv g33 ((withoutF pl s0).1.stands.length) c34, slv g37 ((withoutF pl s0).1.spells.length) c38, iv ((withoutF pl s0).1.geese)]) (by kernel_rfl) (pu (iv (withoutF pl s0).2) (by kernel_rfl) (seq_c (s_allocI hI [iv 0, iv 0, .slice none 0 0, .slice none 0 0, .slice none 0 0, iv 0] Tryz.zeroValue28 rfl ?_))))
 intro b41 w hI
 refine seq_c (s_store hI 0 6 [iv ((withoutF pl s0).1.lo), iv ((withoutF pl s0).1.hi), slv g29 ((withoutF pl s0).1.loads.length) c30, slv g33 ((withoutF pl s0).1.stands.length) c34, slv g37 ((withoutF pl s0).1.spells.length) c38, iv ((withoutF pl s0).1.geese)] Tryz.sizeOf28 rfl rfl rfl rfl rfl (Nat.le_of_ble_eq_true rfl) ?_)
 intro w hI
 refine pu (iv (withoutF pl s0).2) (by kernel_rfl) (seq_nil (wp_seq (rgn (by kernel_rfl) (seq_c (s_loadK hI 13 6 [iv pl.lo, iv pl.hi, .slice pA1 pn1 pc1, .slice pA2 pn2 pc2, .slice pA3 pn3 pc3, iv pl.geese] Tryz.isAgg28 Tryz.sizeOf28 rfl rfl rfl rfl ?_)))))
 refine pu (iv s0) (by kernel_rfl) (seq_c (s_callPlotT hI (q := (withoutF pl s0).1) 17 [.agg #[iv pl.lo, iv pl.hi, .slice pA1 pn1 pc1, .slice pA2 pn2 pc2, .slice pA3 pn3 pc3, iv pl.geese], iv s0] (by kernel_rfl) (RefWithout_c _ pl pA1 pn1 pc1 pA2 pn2 pc2 pA3 pn3 pc3 (hP.inv0 hI) s0) ?_))
 intro g42 c43 cl44 g46 c47 cl48 g50 c51 cl52 w hI r45 r49 r53
 refine pu (.tuple #[.agg #[iv ((withoutF pl s0).1.lo), iv ((withoutF pl s0).1.hi), slv g42 ((withoutF pl s0).1.loads.length) c43, slv g46 ((withoutF pl s0).1.stands.length) c47, slv g50 ((withoutF pl s0).1.spells.length) c51, iv ((withoutF pl s0).1.geese)], iv (withoutF pl s0).2]) (by kernel_rfl) (pu (.agg #[iv ((withoutF pl s0).1.lo), iv ((withoutF pl s0).1.hi), slv g42 ((withoutF pl s0).1.loads.length) c43, slv g46 ((withoutF pl s0).1.stands.length) c47, slv g50 ((withoutF pl s0).1.spells.length) c51, iv ((withoutF pl s0).1.geese)]) (by kernel_rfl) (pu (iv (withoutF pl s0).2) (by kernel_rfl) (seq_c (s_allocI hI [iv 0, iv 0, .slice none 0 0, .slice none 0 0, .slice none 0 0, iv 0] Tryz.zeroValue28 rfl ?_))))
 intro b54 w hI
 refine seq_c (s_store hI 0 6 [iv ((withoutF pl s0).1.lo), iv ((withoutF pl s0).1.hi), slv g42 ((withoutF pl s0).1.loads.length) c43, slv g46 ((withoutF pl s0).1.stands.length) c47, slv g50 ((withoutF pl s0).1.spells.length) c51, iv ((withoutF pl s0).1.geese)] Tryz.sizeOf28 rfl rfl rfl rfl rfl (Nat.le_of_ble_eq_true rfl) ?_)
 intro w hI
 refine pu (iv (withoutF pl s0).2) (by kernel_rfl) (seq_nil (wp_seq (rgn (by kernel_rfl) (seq_c (s_loadK hI 17 6 [iv pl.lo, iv pl.hi, .slice pA1 pn1 pc1, .slice pA2 pn2 pc2, .slice pA3 pn3 pc3, iv pl.geese] Tryz.isAgg28 Tryz.sizeOf28 rfl rfl rfl rfl ?_)))))
 refine seq_c (s_callNewF hI 18 [.agg #[iv pl.lo, iv pl.hi, .slice pA1 pn1 pc1, .slice pA2 pn2 pc2, .slice pA3 pn3 pc3, iv pl.geese]] (fun v1 => .tuple #[v1, iv (datesF pl).2]) (k := 1) (E := 3) (n := (datesF pl).1.length) (xs := flat eInt (datesF pl).1) (by kernel_rfl) (by have h8 := Dates_c _ pl pA1 pn1 pc1 pA2 pn2 pc2 pA3 pn3 pc3 (hP.inv0 hI); rw [dates_eq] at h8; exact h8) ?_)
 intro g55 c56 cl57 w hI r58
 have r58 : Row 1 g55 (datesF pl).1.length c56 cl57 (flat eInt (datesF pl).1) := r58
 refine pu (.tuple #[slv g55 (datesF pl).1.length c56, iv (datesF pl).2]) (by kernel_rfl) (pu (slv g55 (datesF pl).1.length c56) (by kernel_rfl) (pu (iv (datesF pl).2) (by kernel_rfl) (pu (slv g55 (datesF pl).1.length c56) (by kernel_rfl) (pu (iv (datesF pl).2) (by kernel_rfl) (seq_nil (wp_seq (rgn (by kernel_rfl) (seq_c (s_loadK hI 18 6 [iv pl.lo, iv pl.hi, .slice pA1 pn1 pc1, .slice pA2 pn2 pc2, .slice pA3 pn3 pc3, iv pl.geese] Tryz.isAgg28 Tryz.sizeOf28 rfl rfl rfl rfl ?_)))))))))
 refine seq_c (s_callNewF hI 19 [.agg #[iv pl.lo, iv pl.hi, .slice pA1 pn1 pc1, .slice pA2 pn2 pc2, .slice pA3 pn3 pc3, iv pl.geese]] (fun v1 => .tuple #[v1, iv (datesF pl).2]) (k := 1) (E := 3) (n := (datesF pl).1.length) (xs := flat eInt (datesF pl).1) (by kernel_rfl) (RefDates_c _ pl pA1 pn1 pc1 pA2 pn2 pc2 pA3 pn3 pc3 (hP.inv0 hI)) ?_)
 intro g59 c60 cl61 w hI r62
 have r62 : Row 1 g59 (datesF pl).1.length c60 cl61 (flat eInt (datesF pl).1) := r62
 refine pu (.tuple #[slv g59 (datesF pl).1.length c60, iv (datesF pl).2]) (by kernel_rfl) (pu (slv g59 (datesF pl).1.length c60) (by kernel_rfl) (pu (iv (datesF pl).2) (by kernel_rfl) (pu (slv g59 (datesF pl).1.length c60) (by kernel_rfl) (pu (iv (datesF pl).2) (by kernel_rfl) (seq_nil (wp_seq (rgn (by kernel_rfl) (seq_c (s_loadK hI 14 6 [iv ((standsF pl xx).1.lo), iv ((standsF pl xx).1.hi), slv g3 ((standsF pl xx).1.loads.length) c4, slv g7 ((standsF pl xx).1.stands.length) c8, slv g11 ((standsF pl xx).1.spells.length) c12, iv ((standsF pl xx).1.geese)] Tryz.isAgg28 Tryz.sizeOf28 rfl rfl rfl rfl ?_)))))))))
 refine seq_c (s_loadK hI 10 6 [iv ((standsF pl xx).1.lo), iv ((standsF pl xx).1.hi), slv g16 ((standsF pl xx).1.loads.length) c17, slv g20 ((standsF pl xx).1.stands.length) c21, slv g24 ((standsF pl xx).1.spells.length) c25, iv ((standsF pl xx).1.geese)] Tryz.isAgg28 Tryz.sizeOf28 rfl rfl rfl rfl ?_)
 refine seq_c (s_callv hI 20 [.agg #[iv ((standsF pl xx).1.lo), iv ((standsF pl xx).1.hi), slv g3 ((standsF pl xx).1.loads.length) c4, slv g7 ((standsF pl xx).1.stands.length) c8, slv g11 ((standsF pl xx).1.spells.length) c12, iv ((standsF pl xx).1.geese)], .agg #[iv ((standsF pl xx).1.lo), iv ((standsF pl xx).1.hi), slv g16 ((standsF pl xx).1.loads.length) c17, slv g20 ((standsF pl xx).1.stands.length) c21, slv g24 ((standsF pl xx).1.spells.length) c25, iv ((standsF pl xx).1.geese)]] (.bool true) (by kernel_rfl) (Does.mono (SamePlot_c _ (standsF pl xx).1 (g3.map fun b => ⟨b, 0, none⟩) ((standsF pl xx).1.loads.length) c4 (g7.map fun b => ⟨b, 0, none⟩) ((standsF pl xx).1.stands.length) c8 (g11.map fun b => ⟨b, 0, none⟩) ((standsF pl xx).1.spells.length) c12 ⟨(hI.rowCells 15 rfl r6), rfl, (hI.rowCells 16 rfl r10), rfl, (hI.rowCells 17 rfl r14), rfl, r6.big, r10.big, r14.big⟩ (standsF pl xx).1 (g16.map fun b => ⟨b, 0, none⟩) ((standsF pl xx).1.loads.length) c17 (g20.map fun b => ⟨b, 0, none⟩) ((standsF pl xx).1.stands.length) c21 (g24.map fun b => ⟨b, 0, none⟩) ((standsF pl xx).1.spells.length) c25 ⟨(hI.rowCells 11 rfl r19), rfl, (hI.rowCells 12 rfl r23), rfl, (hI.rowCells 13 rfl r27), rfl, r19.big, r23.big, r27.big⟩) fun v' w' h => ⟨h.1.trans (congrArg Value.bool (decide_eq_true rfl)), h.2⟩) ?_)
 intro w hI
 refine pu (.bool true) (by kernel_rfl) (seq_nil (wp_seq (rgn (by kernel_rfl) (seq_c (s_loadK hI 6 6 [iv ((withoutF pl s0).1.lo), iv ((withoutF pl s0).1.hi), slv g29 ((withoutF pl s0).1.loads.length) c30, slv g33 ((withoutF pl s0).1.stands.length) c34, slv g37 ((withoutF pl s0).1.spells.length) c38, iv ((withoutF pl s0).1.geese)] Tryz.isAgg28 Tryz.sizeOf28 rfl rfl rfl rfl ?_)))))
 refine seq_c (s_loadK hI 2 6 [iv ((withoutF pl s0).1.lo), iv ((withoutF pl s0).1.hi), slv g42 ((withoutF pl s0).1.loads.length) c43, slv g46 ((withoutF pl s0).1.stands.length) c47, slv g50 ((withoutF pl s0).1.spells.length) c51, iv ((withoutF pl s0).1.geese)] Tryz.isAgg28 Tryz.sizeOf28 rfl rfl rfl rfl ?_)
 refine seq_c (s_callv hI 20 [.agg #[iv ((withoutF pl s0).1.lo), iv ((withoutF pl s0).1.hi), slv g29 ((withoutF pl s0).1.loads.length) c30, slv g33 ((withoutF pl s0).1.stands.length) c34, slv g37 ((withoutF pl s0).1.spells.length) c38, iv ((withoutF pl s0).1.geese)], .agg #[iv ((withoutF pl s0).1.lo), iv ((withoutF pl s0).1.hi), slv g42 ((withoutF pl s0).1.loads.length) c43, slv g46 ((withoutF pl s0).1.stands.length) c47, slv g50 ((withoutF pl s0).1.spells.length) c51, iv ((withoutF pl s0).1.geese)]] (.bool true) (by kernel_rfl) (Does.mono (SamePlot_c _ (withoutF pl s0).1 (g29.map fun b => ⟨b, 0, none⟩) ((withoutF pl s0).1.loads.length) c30 (g33.map fun b => ⟨b, 0, none⟩) ((withoutF pl s0).1.stands.length) c34 (g37.map fun b => ⟨b, 0, none⟩) ((withoutF pl s0).1.spells.length) c38 ⟨(hI.rowCells 7 rfl r32), rfl, (hI.rowCells 8 rfl r36), rfl, (hI.rowCells 9 rfl r40), rfl, r32.big, r36.big, r40.big⟩ (withoutF pl s0).1 (g42.map fun b => ⟨b, 0, none⟩) ((withoutF pl s0).1.loads.length) c43 (g46.map fun b => ⟨b, 0, none⟩) ((withoutF pl s0).1.stands.length) c47 (g50.map fun b => ⟨b, 0, none⟩) ((withoutF pl s0).1.spells.length) c51 ⟨(hI.rowCells 3 rfl r45), rfl, (hI.rowCells 4 rfl r49), rfl, (hI.rowCells 5 rfl r53), rfl, r45.big, r49.big, r53.big⟩) fun v' w' h => ⟨h.1.trans (congrArg Value.bool (decide_eq_true rfl)), h.2⟩) ?_)
 intro w hI
 refine pu (.bool true) (by kernel_rfl) (seq_nil (wp_seq (rgn (by kernel_rfl) (pu (slv g55 (datesF pl).1.length c56) (by kernel_rfl) (pu (slv g59 (datesF pl).1.length c60) (by kernel_rfl) (seq_c (s_callv hI 21 [slv g55 (datesF pl).1.length c56, slv g59 (datesF pl).1.length c60] (.bool true) (by kernel_rfl) (Does.mono (Same_c _ (datesF pl).1 (datesF pl).1 (g55.map fun b => ⟨b, 0, none⟩) (datesF pl).1.length c56 (g59.map fun b => ⟨b, 0, none⟩) (datesF pl).1.length c60 rfl rfl r58.big r62.big (hI.rowCells 1 rfl r58) (hI.rowCells 0 rfl r62)) fun v' w' h => ⟨h.1.trans (congrArg Value.bool (decide_eq_true rfl)), h.2⟩) ?_)))))))
 intro w hI
 refine pu (.bool true) (by kernel_rfl) (seq_nil (wp_seq (wp_seq (wp_drawn2 hI [0, 1, 2, 3, 4, 5, 6, 7, 8, 9, 10, 11, 12, 13, 14, 15, 16, 17, 18, 19] (by decide) rfl (by kernel_rfl) (by kernel_rfl) ?_))))
 intro hsub
 refine alp 0 (.bool true) hsub rfl (by kernel_rfl) (fun _ => (by kernel_rfl)) ?_
 refine alp 1 (.bool false) hsub rfl (by kernel_rfl) (fun _ => (by kernel_rfl)) ?_
 refine alp 2 (.bool false) hsub rfl (by kernel_rfl) (fun _ => (by kernel_rfl)) ?_
 refine al_on 3 (.bool true) hsub rfl (by kernel_rfl) (by kernel_rfl) (fun w hI => s_pure (.bool true) (by kernel_rfl) ⟨rfl, Below.refl _ _⟩) ?_
 refine al_on 4 (.bool false) hsub rfl (by kernel_rfl) (by kernel_rfl) (fun w hI => s_pure (.bool false) (by kernel_rfl) ⟨rfl, Below.refl _ _⟩) ?_
 refine alp 5 (.bool false) hsub rfl (by kernel_rfl) (fun _ => (by kernel_rfl)) ?_
 refine alp 6 (.bool false) hsub rfl (by kernel_rfl) (fun _ => (by kernel_rfl)) ?_
 refine al_on 7 (iv (standsF pl xx).2) hsub rfl (by kernel_rfl) (by kernel_rfl) (fun w hI => s_pure (iv (standsF pl xx).2) (by kernel_rfl) ⟨rfl, Below.refl _ _⟩) ?_
 refine al_on 8 (iv (standsF pl xx).2) hsub rfl (by kernel_rfl) (by kernel_rfl) (fun w hI => s_pure (iv (standsF pl xx).2) (by kernel_rfl) ⟨rfl, Below.refl _ _⟩) ?_
 refine al_on 9 (.bool false) hsub rfl (by kernel_rfl) (by kernel_rfl) (fun w hI => s_neqS rfl rfl ⟨rfl, Below.refl _ _⟩) ?_
 refine alp 10 (.bool false) hsub rfl (by kernel_rfl) (fun _ => (by kernel_rfl)) ?_
 refine alp 11 (.bool false) hsub rfl (by kernel_rfl) (fun _ => (by kernel_rfl)) ?_
 refine al_on 12 (.bool true) hsub rfl (by kernel_rfl) (by kernel_rfl) (fun w hI => s_pure (.bool true) (by kernel_rfl) ⟨rfl, Below.refl _ _⟩) ?_
 refine al_on 13 (.bool false) hsub rfl (by kernel_rfl) (by kernel_rfl) (fun w hI => s_pure (.bool false) (by kernel_rfl) ⟨rfl, Below.refl _ _⟩) ?_
 refine alp 14 (.bool false) hsub rfl (by kernel_rfl) (fun _ => (by kernel_rfl)) ?_
 refine alp 15 (.bool false) hsub rfl (by kernel_rfl) (fun _ => (by kernel_rfl)) ?_
 refine al_on 16 (iv (withoutF pl s0).2) hsub rfl (by kernel_rfl) (by kernel_rfl) (fun w hI => s_pure (iv (withoutF pl s0).2) (by kernel_rfl) ⟨rfl, Below.refl _ _⟩) ?_
 refine al_on 17 (iv (withoutF pl s0).2) hsub rfl (by kernel_rfl) (by kernel_rfl) (fun w hI => s_pure (iv (withoutF pl s0).2) (by kernel_rfl) ⟨rfl, Below.refl _ _⟩) ?_
 refine al_on 18 (.bool false) hsub rfl (by kernel_rfl) (by kernel_rfl) (fun w hI => s_neqS rfl rfl ⟨rfl, Below.refl _ _⟩) ?_
 refine alp 19 (.bool false) hsub rfl (by kernel_rfl) (fun _ => (by kernel_rfl)) ?_
 refine alp 20 (.bool false) hsub rfl (by kernel_rfl) (fun _ => (by kernel_rfl)) ?_
 refine al_on 21 (.bool true) hsub rfl (by kernel_rfl) (by kernel_rfl) (fun w hI => s_pure (.bool true) (by kernel_rfl) ⟨rfl, Below.refl _ _⟩) ?_
 refine al_on 22 (.bool false) hsub rfl (by kernel_rfl) (by kernel_rfl) (fun w hI => s_pure (.bool false) (by kernel_rfl) ⟨rfl, Below.refl _ _⟩) ?_
 refine alp 23 (.bool false) hsub rfl (by kernel_rfl) (fun _ => (by kernel_rfl)) ?_
 refine alp 24 (.bool false) hsub rfl (by kernel_rfl) (fun _ => (by kernel_rfl)) ?_
 refine al_on 25 (iv (datesF pl).2) hsub rfl (by kernel_rfl) (by kernel_rfl) (fun w hI => s_pure (iv (datesF pl).2) (by kernel_rfl) ⟨rfl, Below.refl _ _⟩) ?_
 refine al_on 26 (iv (datesF pl).2) hsub rfl (by kernel_rfl) (by kernel_rfl) (fun w hI => s_pure (iv (datesF pl).2) (by kernel_rfl) ⟨rfl, Below.refl _ _⟩) ?_
 refine al_on 27 (.bool false) hsub rfl (by kernel_rfl) (by kernel_rfl) (fun w hI => s_neqS rfl rfl ⟨rfl, Below.refl _ _⟩) ?_
 refine alp 28 (.bool false) hsub rfl (by kernel_rfl) (fun _ => (by kernel_rfl)) ?_
 refine alp 29 (.bool false) hsub rfl (by kernel_rfl) (fun _ => (by kernel_rfl)) ?_
 refine al_on 30 (.agg #[iv pl.lo, iv pl.hi, .slice pA1 pn1 pc1, .slice pA2 pn2 pc2, .slice pA3 pn3 pc3, iv pl.geese]) hsub rfl (by kernel_rfl) (by kernel_rfl) (fun w hI => s_loadK hI 19 6 [iv pl.lo, iv pl.hi, .slice pA1 pn1 pc1, .slice pA2 pn2 pc2, .slice pA3 pn3 pc3, iv pl.geese] Tryz.isAgg28 Tryz.sizeOf28 rfl rfl rfl rfl ⟨rfl, Below.refl _ _⟩) ?_
 refine al_on 31 (iv (codeI (plotB pl) 13)) hsub rfl (by kernel_rfl) (by kernel_rfl) (fun w hI => s_call 22 [.agg #[iv pl.lo, iv pl.hi, .slice pA1 pn1 pc1, .slice pA2 pn2 pc2, .slice pA3 pn3 pc3, iv pl.geese]] (by kernel_rfl) (Check_c _ pl pA1 pn1 pc1 pA2 pn2 pc2 pA3 pn3 pc3 (hP.inv0 hI)) (fun v' w' h => h)) ?_
 refine al_on 32 (.agg #[iv pl.lo, iv pl.hi, .slice pA1 pn1 pc1, .slice pA2 pn2 pc2, .slice pA3 pn3 pc3, iv pl.geese]) hsub rfl (by kernel_rfl) (by kernel_rfl) (fun w hI => s_loadK hI 19 6 [iv pl.lo, iv pl.hi, .slice pA1 pn1 pc1, .slice pA2 pn2 pc2, .slice pA3 pn3 pc3, iv pl.geese] Tryz.isAgg28 Tryz.sizeOf28 rfl rfl rfl rfl ⟨rfl, Below.refl _ _⟩) ?_
 refine al_on 33 (iv (codeI (plotB pl) 13)) hsub rfl (by kernel_rfl) (by kernel_rfl) (fun w hI => s_call 23 [.agg #[iv pl.lo, iv pl.hi, .slice pA1 pn1 pc1, .slice pA2 pn2 pc2, .slice pA3 pn3 pc3, iv pl.geese]] (by kernel_rfl) (RefCheck_c _ pl pA1 pn1 pc1 pA2 pn2 pc2 pA3 pn3 pc3 (hP.inv0 hI)) (fun v' w' h => h)) ?_
 refine al_on 34 (.bool false) hsub rfl (by kernel_rfl) (by kernel_rfl) (fun w hI => s_neqS rfl rfl ⟨rfl, Below.refl _ _⟩) ?_
 refine alp 35 (.bool false) hsub rfl (by kernel_rfl) (fun _ => (by kernel_rfl)) ?_
 refine any_end (by kernel_rfl) (fun w hI => ?_)
 refine wp_condF rfl (wp_skip (wp_seq (wp_drawn2 hI [0, 1, 2, 3, 4, 5, 6, 7, 8, 9, 10, 11, 12, 13, 14, 15, 16, 17, 18, 19] (by decide) rfl (by kernel_rfl) (by kernel_rfl) ?_)))
 intro hsub
 refine alp 0 (.pointer (some ⟨b2, 0, none⟩)) hsub rfl (by kernel_rfl) (fun _ => (by kernel_rfl)) ?_
 refine al_light 1 (.agg #[iv ll.src, iv ll.hr, iv ll.lo, iv ll.hi, iv ll.kn, iv ll.un]) hsub rfl (by kernel_rfl) (fun w hI => s_loadK hI 18 6 [iv ll.src, iv ll.hr, iv ll.lo, iv ll.hi, iv ll.kn, iv ll.un] Tryz.isAgg30 Tryz.sizeOf30 rfl rfl rfl rfl ⟨rfl, Below.refl _ _⟩) ?_
 refine al_light 2 (iv (codeI (loadB ll.src ll.hr ll.lo ll.hi ll.kn ll.un) 10)) hsub rfl (by kernel_rfl) (fun w hI => s_call 24 [.agg #[iv ll.src, iv ll.hr, iv ll.lo, iv ll.hi, iv ll.kn, iv ll.un]] (by kernel_rfl) (CheckLoad_c ll.src ll.hr ll.lo ll.hi ll.kn ll.un _) (fun v' w' h => h)) ?_
 refine alp 3 (.pointer (some ⟨b2, 0, none⟩)) hsub rfl (by kernel_rfl) (fun _ => (by kernel_rfl)) ?_
 refine al_light 4 (.agg #[iv ll.src, iv ll.hr, iv ll.lo, iv ll.hi, iv ll.kn, iv ll.un]) hsub rfl (by kernel_rfl) (fun w hI => s_loadK hI 18 6 [iv ll.src, iv ll.hr, iv ll.lo, iv ll.hi, iv ll.kn, iv ll.un] Tryz.isAgg30 Tryz.sizeOf30 rfl rfl rfl rfl ⟨rfl, Below.refl _ _⟩) ?_
 refine al_light 5 (iv (codeI (loadB ll.src ll.hr ll.lo ll.hi ll.kn ll.un) 10)) hsub rfl (by kernel_rfl) (fun w hI => s_call 25 [.agg #[iv ll.src, iv ll.hr, iv ll.lo, iv ll.hi, iv ll.kn, iv ll.un]] (by kernel_rfl) (refCheckLoad_c ll.src ll.hr ll.lo ll.hi ll.kn ll.un _) (fun v' w' h => h)) ?_
 refine al_light 6 (.bool true) hsub rfl (by kernel_rfl) (fun w hI => s_eqlS rfl rfl ⟨rfl, Below.refl _ _⟩) ?_
 refine alp 7 (.bool true) hsub rfl (by kernel_rfl) (fun _ => (by kernel_rfl)) ?_
 refine al_on 8 (.pointer (some ⟨b2, 6, none⟩)) hsub rfl (by kernel_rfl) (by kernel_rfl) (fun w hI => s_pure (.pointer (some ⟨b2, 6, none⟩)) (by kernel_rfl) ⟨rfl, Below.refl _ _⟩) ?_
 refine al_on 9 (.agg #[iv xx.src, iv xx.hr, iv xx.lo, iv xx.hi, iv xx.kn, iv xx.un]) hsub rfl (by kernel_rfl) (by kernel_rfl) (fun w hI => s_loadK hI 18 6 [iv xx.src, iv xx.hr, iv xx.lo, iv xx.hi, iv xx.kn, iv xx.un] Tryz.isAgg31 Tryz.sizeOf31 rfl rfl rfl rfl ⟨rfl, Below.refl _ _⟩) ?_
 refine al_on 10 (iv (codeI (loadB xx.src xx.hr xx.lo xx.hi xx.kn xx.un) 11)) hsub rfl (by kernel_rfl) (by kernel_rfl) (fun w hI => s_call 26 [.agg #[iv xx.src, iv xx.hr, iv xx.lo, iv xx.hi, iv xx.kn, iv xx.un]] (by kernel_rfl) (CheckStand_c xx.src xx.hr xx.lo xx.hi xx.kn xx.un _) (fun v' w' h => h)) ?_
 refine al_on 11 (.pointer (some ⟨b2, 6, none⟩)) hsub rfl (by kernel_rfl) (by kernel_rfl) (fun w hI => s_pure (.pointer (some ⟨b2, 6, none⟩)) (by kernel_rfl) ⟨rfl, Below.refl _ _⟩) ?_
 refine al_on 12 (.agg #[iv xx.src, iv xx.hr, iv xx.lo, iv xx.hi, iv xx.kn, iv xx.un]) hsub rfl (by kernel_rfl) (by kernel_rfl) (fun w hI => s_loadK hI 18 6 [iv xx.src, iv xx.hr, iv xx.lo, iv xx.hi, iv xx.kn, iv xx.un] Tryz.isAgg31 Tryz.sizeOf31 rfl rfl rfl rfl ⟨rfl, Below.refl _ _⟩) ?_
 refine al_on 13 (iv (codeI (loadB xx.src xx.hr xx.lo xx.hi xx.kn xx.un) 11)) hsub rfl (by kernel_rfl) (by kernel_rfl) (fun w hI => s_call 27 [.agg #[iv xx.src, iv xx.hr, iv xx.lo, iv xx.hi, iv xx.kn, iv xx.un]] (by kernel_rfl) (refCheckStand_c xx.src xx.hr xx.lo xx.hi xx.kn xx.un _) (fun v' w' h => h)) ?_
 refine al_on 14 (.bool true) hsub rfl (by kernel_rfl) (by kernel_rfl) (fun w hI => s_eqlS rfl rfl ⟨rfl, Below.refl _ _⟩) ?_
 refine alp 15 (.bool true) hsub rfl (by kernel_rfl) (fun _ => (by kernel_rfl)) ?_
 refine alp 16 (.bool true) hsub rfl (by kernel_rfl) (fun _ => (by kernel_rfl)) ?_
 refine al_on 17 (.pointer (some ⟨b2, 12, none⟩)) hsub rfl (by kernel_rfl) (by kernel_rfl) (fun w hI => s_pure (.pointer (some ⟨b2, 12, none⟩)) (by kernel_rfl) ⟨rfl, Below.refl _ _⟩) ?_
 refine al_on 18 (.agg #[iv sp.src, iv sp.kd, iv sp.fr, iv sp.to, iv sp.kn, iv sp.un]) hsub rfl (by kernel_rfl) (by kernel_rfl) (fun w hI => s_loadK hI 18 6 [iv sp.src, iv sp.kd, iv sp.fr, iv sp.to, iv sp.kn, iv sp.un] Tryz.isAgg33 Tryz.sizeOf33 rfl rfl rfl rfl ⟨rfl, Below.refl _ _⟩) ?_
 refine al_on 19 (iv (codeI (spellB sp.src sp.kd sp.fr sp.to sp.kn sp.un) 12)) hsub rfl (by kernel_rfl) (by kernel_rfl) (fun w hI => s_call 28 [.agg #[iv sp.src, iv sp.kd, iv sp.fr, iv sp.to, iv sp.kn, iv sp.un]] (by kernel_rfl) (CheckSpell_c sp.src sp.kd sp.fr sp.to sp.kn sp.un _) (fun v' w' h => h)) ?_
 refine al_on 20 (.pointer (some ⟨b2, 12, none⟩)) hsub rfl (by kernel_rfl) (by kernel_rfl) (fun w hI => s_pure (.pointer (some ⟨b2, 12, none⟩)) (by kernel_rfl) ⟨rfl, Below.refl _ _⟩) ?_
 refine al_on 21 (.agg #[iv sp.src, iv sp.kd, iv sp.fr, iv sp.to, iv sp.kn, iv sp.un]) hsub rfl (by kernel_rfl) (by kernel_rfl) (fun w hI => s_loadK hI 18 6 [iv sp.src, iv sp.kd, iv sp.fr, iv sp.to, iv sp.kn, iv sp.un] Tryz.isAgg33 Tryz.sizeOf33 rfl rfl rfl rfl ⟨rfl, Below.refl _ _⟩) ?_
 refine al_on 22 (iv (codeI (spellB sp.src sp.kd sp.fr sp.to sp.kn sp.un) 12)) hsub rfl (by kernel_rfl) (by kernel_rfl) (fun w hI => s_call 29 [.agg #[iv sp.src, iv sp.kd, iv sp.fr, iv sp.to, iv sp.kn, iv sp.un]] (by kernel_rfl) (refCheckSpell_c sp.src sp.kd sp.fr sp.to sp.kn sp.un _) (fun v' w' h => h)) ?_
 refine al_on 23 (.bool true) hsub rfl (by kernel_rfl) (by kernel_rfl) (fun w hI => s_eqlS rfl rfl ⟨rfl, Below.refl _ _⟩) ?_
 refine alp 24 (.bool true) hsub rfl (by kernel_rfl) (fun _ => (by kernel_rfl)) ?_
 refine alp 25 (.bool true) hsub rfl (by kernel_rfl) (fun _ => (by kernel_rfl)) ?_
 refine any_end (by kernel_rfl) (fun w hI => ?_)
 refine wp_ret ?_
 exact ⟨.bool true, Ret.r1 rfl rfl, ⟨rfl, hI.below⟩⟩

end Go.K
