/- The example, and what every law asks first. -/
import Derived.Test.YtinkdlmimiefaaaGreatProg
import Derived.Test.YtinkdlmimiefaaaGreatN1
namespace Go.K
open Go.Proofs Go.RowKit
set_option linter.unusedVariables false
set_option linter.unusedSimpArgs false
set_option maxRecDepth 100000
attribute [local irreducible] Seq Step CallV AnyE opX

theorem Row.lit {k b n : Nat} {xs : List Value} (h : xs.length = n * k) (hn : n ≤ maxLen) : Row k (some b) n n xs xs := ⟨h, Nat.le_refl _, hn, h, by rw [← h, List.take_length], fun h => by cases h⟩


theorem plot_c (w0 : World) : Does Tryz.prog 60 [] w0 fun v w => GivesPlot exP w0 v w := by
 refine calls_of (n := 21) Tryz.func60 rfl Tryz.ntmps60 rfl ?_
 have hI := Inv.start w0
 refine wp_seq (rgn (by kernel_rfl) (seq_c (s_allocI hI [iv 0, iv 0, .slice none 0 0, .slice none 0 0, .slice none 0 0, iv 0] Tryz.zeroValue28 rfl ?_)))
 intro b1 w hI
 refine seq_nil (wp_seq (rgn (by kernel_rfl) (pu (.agg #[iv 100, iv 120]) (by kernel_rfl) (pu (.agg #[iv 40, iv 50]) (by kernel_rfl) (pu (.agg #[iv 1, iv 30, iv 40, iv 50, iv 0, iv 0]) (by kernel_rfl) (pu (.agg #[iv 30, iv 40]) (by kernel_rfl) (pu (.agg #[iv 2, iv 35, iv 30, iv 40, iv 0, iv 0]) (by kernel_rfl) (pu (.agg #[iv 10, iv 60]) (by kernel_rfl) (pu (.agg #[iv 3, iv 58, iv 10, iv 60, iv 4, iv 0]) (by kernel_rfl) ?_)))))))))
 refine seq_c (s_new hI [iv 1, iv 30, iv 40, iv 50, iv 0, iv 0, iv 2, iv 35, iv 30, iv 40, iv 0, iv 0, iv 3, iv 58, iv 10, iv 60, iv 4, iv 0] 30 (fun b => slv (some b) 3 3) (by kernel_rfl) ?_)
 intro b2 w hI
 refine pu (.agg #[iv 20, iv 35]) (by kernel_rfl) (pu (.agg #[iv 11, iv 35, iv 20, iv 35, iv 2, iv 0]) (by kernel_rfl) (pu (.agg #[iv 0, iv 5]) (by kernel_rfl) (pu (.agg #[iv 12, iv 58, iv 0, iv 5, iv 5, iv 0]) (by kernel_rfl) (pu (.agg #[iv 13, iv 58, iv 0, iv 0, iv 6, iv 0]) (by kernel_rfl) (pu (.agg #[iv 80, iv 90]) (by kernel_rfl) (pu (.agg #[iv 14, iv 30, iv 80, iv 90, iv 9, iv 0]) (by kernel_rfl) (seq_c (s_new hI [iv 11, iv 35, iv 20, iv 35, iv 2, iv 0, iv 12, iv 58, iv 0, iv 5, iv 5, iv 0, iv 13, iv 58, iv 0, iv 0, iv 6, iv 0, iv 14, iv 30, iv 80, iv 90, iv 9, iv 0] 31 (fun b => slv (some b) 4 4) (by kernel_rfl) ?_))))))))
 intro b3 w hI
 refine pu (.agg #[iv 21, iv 1, iv 58, iv 60, iv 4, iv 0]) (by kernel_rfl) (pu (.agg #[iv 22, iv 2, iv 64, iv 70, iv 5, iv 0]) (by kernel_rfl) (seq_c (s_new hI [iv 21, iv 1, iv 58, iv 60, iv 4, iv 0, iv 22, iv 2, iv 64, iv 70, iv 5, iv 0] 33 (fun b => slv (some b) 2 2) (by kernel_rfl) ?_)))
 intro b4 w hI
 refine pu (.agg #[iv 100, iv 120, .slice (some ⟨b2, 0, none⟩) 3 3, .slice (some ⟨b3, 0, none⟩) 4 4, .slice (some ⟨b4, 0, none⟩) 2 2, iv 2]) (by kernel_rfl) (seq_c (s_store hI 3 6 [iv 100, iv 120, .slice (some ⟨b2, 0, none⟩) 3 3, .slice (some ⟨b3, 0, none⟩) 4 4, .slice (some ⟨b4, 0, none⟩) 2 2, iv 2] Tryz.sizeOf28 rfl rfl rfl rfl rfl (Nat.le_of_ble_eq_true rfl) ?_))
 intro w hI
 refine seq_nil (wp_ret ?_)
 exact ⟨.agg #[iv 100, iv 120, .slice (some ⟨b2, 0, none⟩) 3 3, .slice (some ⟨b3, 0, none⟩) 4 4, .slice (some ⟨b4, 0, none⟩) 2 2, iv 2], Ret.c rfl rfl (run_loadK hI 3 6 [iv 100, iv 120, .slice (some ⟨b2, 0, none⟩) 3 3, .slice (some ⟨b3, 0, none⟩) 4 4, .slice (some ⟨b4, 0, none⟩) 2 2, iv 2] Tryz.isAgg28 Tryz.sizeOf28 rfl rfl rfl), ⟨some b2, 3, [iv 1, iv 30, iv 40, iv 50, iv 0, iv 0, iv 2, iv 35, iv 30, iv 40, iv 0, iv 0, iv 3, iv 58, iv 10, iv 60, iv 4, iv 0], some b3, 4, [iv 11, iv 35, iv 20, iv 35, iv 2, iv 0, iv 12, iv 58, iv 0, iv 5, iv 5, iv 0, iv 13, iv 58, iv 0, iv 0, iv 6, iv 0, iv 14, iv 30, iv 80, iv 90, iv 9, iv 0], some b4, 2, [iv 21, iv 1, iv 58, iv 60, iv 4, iv 0, iv 22, iv 2, iv 64, iv 70, iv 5, iv 0], rfl, hI.pickL [2, 1, 0] (by decide) rfl, Row.lit rfl (by decide), Row.lit rfl (by decide), Row.lit rfl (by decide)⟩⟩

set_option maxHeartbeats 1600000 in
theorem sane_c (w0 : World) : Does Tryz.prog 13 [] w0 fun v w => v = .bool true ∧ Below w0.heap.size w0 w := by
 refine calls_of (n := 162) Tryz.func13 rfl Tryz.ntmps13 rfl ?_
 have hI := Inv.start w0
 refine wp_seq (rgn (by kernel_rfl) (pu (.bool false) (by kernel_rfl) (seq_nil (wp_seq (rgn (by kernel_rfl) (seq_c (s_callPlot hI (q := exP) 60 [] (by kernel_rfl) (plot_c _) ?_)))))))
 intro g1 c2 cl3 g5 c6 cl7 g9 c10 cl11 w hI r4 r8 r12
 refine seq_c (s_allocI hI [iv 0, iv 0, .slice none 0 0, .slice none 0 0, .slice none 0 0, iv 0] Tryz.zeroValue28 rfl ?_)
 intro b13 w hI
 refine seq_c (s_store hI 0 6 [iv exP.lo, iv exP.hi, slv g1 exP.loads.length c2, slv g5 exP.stands.length c6, slv g9 exP.spells.length c10, iv exP.geese] Tryz.sizeOf28 rfl rfl rfl rfl rfl (Nat.le_of_ble_eq_true rfl) ?_)
 intro w hI
 refine seq_nil (wp_seq (rgn (by kernel_rfl) (seq_c (s_loadK hI 0 6 [iv exP.lo, iv exP.hi, slv g1 exP.loads.length c2, slv g5 exP.stands.length c6, slv g9 exP.spells.length c10, iv exP.geese] Tryz.isAgg28 Tryz.sizeOf28 rfl rfl rfl rfl ?_))))
 refine seq_c (s_callv hI 36 [.agg #[iv exP.lo, iv exP.hi, slv g1 exP.loads.length c2, slv g5 exP.stands.length c6, slv g9 exP.spells.length c10, iv exP.geese], iv 30, iv 2] (.tuple #[.agg #[iv 50, iv 75], iv 0]) (by kernel_rfl) (Does.mono (Stood_c _ exP (g1.map fun b => ⟨b, 0, none⟩) exP.loads.length c2 (g5.map fun b => ⟨b, 0, none⟩) exP.stands.length c6 (g9.map fun b => ⟨b, 0, none⟩) exP.spells.length c10 ⟨(hI.rowCells 1 rfl r4), rfl, (hI.rowCells 2 rfl r8), rfl, (hI.rowCells 3 rfl r12), rfl, r4.big, r8.big, r12.big⟩ 30 2 (by decide)) fun v' w' h => ⟨h.1.trans (by rw [ex_stood] <;> rfl), h.2⟩) ?_)
 intro w hI
 refine pu (.tuple #[.agg #[iv 50, iv 75], iv 0]) (by kernel_rfl) (pu (.agg #[iv 50, iv 75]) (by kernel_rfl) (pu (iv 0) (by kernel_rfl) (seq_c (s_allocI hI [iv 0, iv 0] Tryz.zeroValue23 rfl ?_))))
 intro b14 w hI
 refine seq_c (s_store hI 0 2 [iv 50, iv 75] Tryz.sizeOf23 rfl rfl rfl rfl rfl (Nat.le_of_ble_eq_true rfl) ?_)
 intro w hI
 refine pu (iv 0) (by kernel_rfl) (seq_nil (wp_seq (rgn (by kernel_rfl) (seq_c (s_loadK hI 1 6 [iv exP.lo, iv exP.hi, slv g1 exP.loads.length c2, slv g5 exP.stands.length c6, slv g9 exP.spells.length c10, iv exP.geese] Tryz.isAgg28 Tryz.sizeOf28 rfl rfl rfl rfl ?_)))))
 refine seq_c (s_callv hI 38 [.agg #[iv exP.lo, iv exP.hi, slv g1 exP.loads.length c2, slv g5 exP.stands.length c6, slv g9 exP.spells.length c10, iv exP.geese], iv 3, iv 5] (.tuple #[.agg #[iv 15, iv 35], iv 0]) (by kernel_rfl) (Does.mono (Carted_c _ exP (g1.map fun b => ⟨b, 0, none⟩) exP.loads.length c2 (g5.map fun b => ⟨b, 0, none⟩) exP.stands.length c6 (g9.map fun b => ⟨b, 0, none⟩) exP.spells.length c10 ⟨(hI.rowCells 2 rfl r4), rfl, (hI.rowCells 3 rfl r8), rfl, (hI.rowCells 4 rfl r12), rfl, r4.big, r8.big, r12.big⟩ 3 5 (by decide)) fun v' w' h => ⟨h.1.trans (by rw [ex_carted] <;> rfl), h.2⟩) ?_)
 intro w hI
 refine pu (.tuple #[.agg #[iv 15, iv 35], iv 0]) (by kernel_rfl) (pu (.agg #[iv 15, iv 35]) (by kernel_rfl) (pu (iv 0) (by kernel_rfl) (seq_c (s_allocI hI [iv 0, iv 0] Tryz.zeroValue23 rfl ?_))))
 intro b15 w hI
 refine seq_c (s_store hI 0 2 [iv 15, iv 35] Tryz.sizeOf23 rfl rfl rfl rfl rfl (Nat.le_of_ble_eq_true rfl) ?_)
 intro w hI
 refine pu (iv 0) (by kernel_rfl) (seq_nil (wp_seq (rgn (by kernel_rfl) (seq_c (s_loadK hI 2 6 [iv exP.lo, iv exP.hi, slv g1 exP.loads.length c2, slv g5 exP.stands.length c6, slv g9 exP.spells.length c10, iv exP.geese] Tryz.isAgg28 Tryz.sizeOf28 rfl rfl rfl rfl ?_)))))
 refine seq_c (s_callv hI 45 [.agg #[iv exP.lo, iv exP.hi, slv g1 exP.loads.length c2, slv g5 exP.stands.length c6, slv g9 exP.spells.length c10, iv exP.geese], iv 58, iv 4] (.tuple #[iv 2, iv 0]) (by kernel_rfl) (Does.mono (Clear_c _ exP (g1.map fun b => ⟨b, 0, none⟩) exP.loads.length c2 (g5.map fun b => ⟨b, 0, none⟩) exP.stands.length c6 (g9.map fun b => ⟨b, 0, none⟩) exP.spells.length c10 ⟨(hI.rowCells 3 rfl r4), rfl, (hI.rowCells 4 rfl r8), rfl, (hI.rowCells 5 rfl r12), rfl, r4.big, r8.big, r12.big⟩ 58 4 (by decide)) fun v' w' h => ⟨h.1.trans (by rw [ex_clear] <;> rfl), h.2⟩) ?_)
 intro w hI
 refine pu (.tuple #[iv 2, iv 0]) (by kernel_rfl) (pu (iv 2) (by kernel_rfl) (pu (iv 0) (by kernel_rfl) (pu (iv 2) (by kernel_rfl) (pu (iv 0) (by kernel_rfl) (seq_nil (wp_seq (rgn (by kernel_rfl) (seq_c (s_loadK hI 2 6 [iv exP.lo, iv exP.hi, slv g1 exP.loads.length c2, slv g5 exP.stands.length c6, slv g9 exP.spells.length c10, iv exP.geese] Tryz.isAgg28 Tryz.sizeOf28 rfl rfl rfl rfl ?_)))))))))
 refine seq_c (s_callv hI 47 [.agg #[iv exP.lo, iv exP.hi, slv g1 exP.loads.length c2, slv g5 exP.stands.length c6, slv g9 exP.spells.length c10, iv exP.geese], iv 5] (.tuple #[.agg #[iv 58, iv 100000], iv 0]) (by kernel_rfl) (Does.mono (First_c _ exP (g1.map fun b => ⟨b, 0, none⟩) exP.loads.length c2 (g5.map fun b => ⟨b, 0, none⟩) exP.stands.length c6 (g9.map fun b => ⟨b, 0, none⟩) exP.spells.length c10 ⟨(hI.rowCells 3 rfl r4), rfl, (hI.rowCells 4 rfl r8), rfl, (hI.rowCells 5 rfl r12), rfl, r4.big, r8.big, r12.big⟩ 5 (by decide)) fun v' w' h => ⟨h.1.trans (by rw [ex_first] <;> rfl), h.2⟩) ?_)
 intro w hI
 refine pu (.tuple #[.agg #[iv 58, iv 100000], iv 0]) (by kernel_rfl) (pu (.agg #[iv 58, iv 100000]) (by kernel_rfl) (pu (iv 0) (by kernel_rfl) (seq_c (s_allocI hI [iv 0, iv 0] Tryz.zeroValue23 rfl ?_))))
 intro b16 w hI
 refine seq_c (s_store hI 0 2 [iv 58, iv 100000] Tryz.sizeOf23 rfl rfl rfl rfl rfl (Nat.le_of_ble_eq_true rfl) ?_)
 intro w hI
 refine pu (iv 0) (by kernel_rfl) (seq_nil (wp_seq (rgn (by kernel_rfl) (seq_c (s_loadK hI 3 6 [iv exP.lo, iv exP.hi, slv g1 exP.loads.length c2, slv g5 exP.stands.length c6, slv g9 exP.spells.length c10, iv exP.geese] Tryz.isAgg28 Tryz.sizeOf28 rfl rfl rfl rfl ?_)))))
 refine seq_c (s_callv hI 49 [.agg #[iv exP.lo, iv exP.hi, slv g1 exP.loads.length c2, slv g5 exP.stands.length c6, slv g9 exP.spells.length c10, iv exP.geese], iv 61, iv 6] (.tuple #[.bool false, iv 0]) (by kernel_rfl) (Does.mono (Shut_c _ exP (g1.map fun b => ⟨b, 0, none⟩) exP.loads.length c2 (g5.map fun b => ⟨b, 0, none⟩) exP.stands.length c6 (g9.map fun b => ⟨b, 0, none⟩) exP.spells.length c10 ⟨(hI.rowCells 4 rfl r4), rfl, (hI.rowCells 5 rfl r8), rfl, (hI.rowCells 6 rfl r12), rfl, r4.big, r8.big, r12.big⟩ 61 6 (by decide)) fun v' w' h => ⟨h.1.trans (by rw [ex_shut] <;> rfl), h.2⟩) ?_)
 intro w hI
 refine pu (.tuple #[.bool false, iv 0]) (by kernel_rfl) (pu (.bool false) (by kernel_rfl) (pu (iv 0) (by kernel_rfl) (pu (.bool false) (by kernel_rfl) (pu (iv 0) (by kernel_rfl) (seq_nil (wp_seq (rgn (by kernel_rfl) (seq_c (s_loadK hI 3 6 [iv exP.lo, iv exP.hi, slv g1 exP.loads.length c2, slv g5 exP.stands.length c6, slv g9 exP.spells.length c10, iv exP.geese] Tryz.isAgg28 Tryz.sizeOf28 rfl rfl rfl rfl ?_)))))))))
 refine seq_c (s_callv hI 51 [.agg #[iv exP.lo, iv exP.hi, slv g1 exP.loads.length c2, slv g5 exP.stands.length c6, slv g9 exP.spells.length c10, iv exP.geese], iv 61, iv 5] (.tuple #[iv 2, iv 0]) (by kernel_rfl) (Does.mono (Open_c _ exP (g1.map fun b => ⟨b, 0, none⟩) exP.loads.length c2 (g5.map fun b => ⟨b, 0, none⟩) exP.stands.length c6 (g9.map fun b => ⟨b, 0, none⟩) exP.spells.length c10 ⟨(hI.rowCells 4 rfl r4), rfl, (hI.rowCells 5 rfl r8), rfl, (hI.rowCells 6 rfl r12), rfl, r4.big, r8.big, r12.big⟩ 61 5 (by decide)) fun v' w' h => ⟨h.1.trans (by rw [ex_open1] <;> rfl), h.2⟩) ?_)
 intro w hI
 refine pu (.tuple #[iv 2, iv 0]) (by kernel_rfl) (pu (iv 2) (by kernel_rfl) (pu (iv 0) (by kernel_rfl) (pu (iv 2) (by kernel_rfl) (pu (iv 0) (by kernel_rfl) (seq_nil (wp_seq (rgn (by kernel_rfl) (seq_c (s_loadK hI 3 6 [iv exP.lo, iv exP.hi, slv g1 exP.loads.length c2, slv g5 exP.stands.length c6, slv g9 exP.spells.length c10, iv exP.geese] Tryz.isAgg28 Tryz.sizeOf28 rfl rfl rfl rfl ?_)))))))))
 refine seq_c (s_callv hI 51 [.agg #[iv exP.lo, iv exP.hi, slv g1 exP.loads.length c2, slv g5 exP.stands.length c6, slv g9 exP.spells.length c10, iv exP.geese], iv 105, iv 6] (.tuple #[iv 1, iv 0]) (by kernel_rfl) (Does.mono (Open_c _ exP (g1.map fun b => ⟨b, 0, none⟩) exP.loads.length c2 (g5.map fun b => ⟨b, 0, none⟩) exP.stands.length c6 (g9.map fun b => ⟨b, 0, none⟩) exP.spells.length c10 ⟨(hI.rowCells 4 rfl r4), rfl, (hI.rowCells 5 rfl r8), rfl, (hI.rowCells 6 rfl r12), rfl, r4.big, r8.big, r12.big⟩ 105 6 (by decide)) fun v' w' h => ⟨h.1.trans (by rw [ex_open2] <;> rfl), h.2⟩) ?_)
 intro w hI
 refine pu (.tuple #[iv 1, iv 0]) (by kernel_rfl) (pu (iv 1) (by kernel_rfl) (pu (iv 0) (by kernel_rfl) (pu (iv 1) (by kernel_rfl) (pu (iv 0) (by kernel_rfl) (seq_nil (wp_seq (rgn (by kernel_rfl) (seq_c (s_loadK hI 3 6 [iv exP.lo, iv exP.hi, slv g1 exP.loads.length c2, slv g5 exP.stands.length c6, slv g9 exP.spells.length c10, iv exP.geese] Tryz.isAgg28 Tryz.sizeOf28 rfl rfl rfl rfl ?_)))))))))
 refine seq_c (s_callv hI 51 [.agg #[iv exP.lo, iv exP.hi, slv g1 exP.loads.length c2, slv g5 exP.stands.length c6, slv g9 exP.spells.length c10, iv exP.geese], iv 106, iv 6] (.tuple #[iv 0, iv 0]) (by kernel_rfl) (Does.mono (Open_c _ exP (g1.map fun b => ⟨b, 0, none⟩) exP.loads.length c2 (g5.map fun b => ⟨b, 0, none⟩) exP.stands.length c6 (g9.map fun b => ⟨b, 0, none⟩) exP.spells.length c10 ⟨(hI.rowCells 4 rfl r4), rfl, (hI.rowCells 5 rfl r8), rfl, (hI.rowCells 6 rfl r12), rfl, r4.big, r8.big, r12.big⟩ 106 6 (by decide)) fun v' w' h => ⟨h.1.trans (by rw [ex_open3] <;> rfl), h.2⟩) ?_)
 intro w hI
 refine pu (.tuple #[iv 0, iv 0]) (by kernel_rfl) (pu (iv 0) (by kernel_rfl) (pu (iv 0) (by kernel_rfl) (pu (iv 0) (by kernel_rfl) (pu (iv 0) (by kernel_rfl) (seq_nil (wp_seq (rgn (by kernel_rfl) (seq_c (s_loadK hI 3 6 [iv exP.lo, iv exP.hi, slv g1 exP.loads.length c2, slv g5 exP.stands.length c6, slv g9 exP.spells.length c10, iv exP.geese] Tryz.isAgg28 Tryz.sizeOf28 rfl rfl rfl rfl ?_)))))))))
 refine seq_c (s_callNewF hI 32 [.agg #[iv exP.lo, iv exP.hi, slv g1 exP.loads.length c2, slv g5 exP.stands.length c6, slv g9 exP.spells.length c10, iv exP.geese], iv 9] (fun v1 => .tuple #[v1, iv 0]) (k := 1) (E := 3) (n := 3) (xs := flat eInt [2, 11, 14]) (by kernel_rfl) (by have h8 := Clash_c _ exP (g1.map fun b => ⟨b, 0, none⟩) exP.loads.length c2 (g5.map fun b => ⟨b, 0, none⟩) exP.stands.length c6 (g9.map fun b => ⟨b, 0, none⟩) exP.spells.length c10 ⟨(hI.rowCells 4 rfl r4), rfl, (hI.rowCells 5 rfl r8), rfl, (hI.rowCells 6 rfl r12), rfl, r4.big, r8.big, r12.big⟩ 9 (by decide); rw [ex_clash] at h8; exact h8) ?_)
 intro g17 c18 cl19 w hI r20
 have r20 : Row 1 g17 (3) c18 cl19 (flat eInt ([2, 11, 14])) := r20
 refine pu (.tuple #[slv g17 3 c18, iv 0]) (by kernel_rfl) (pu (slv g17 3 c18) (by kernel_rfl) (pu (iv 0) (by kernel_rfl) (pu (slv g17 3 c18) (by kernel_rfl) (pu (iv 0) (by kernel_rfl) (seq_nil (wp_seq (rgn (by kernel_rfl) (seq_c (s_loadK hI 4 6 [iv exP.lo, iv exP.hi, slv g1 exP.loads.length c2, slv g5 exP.stands.length c6, slv g9 exP.spells.length c10, iv exP.geese] Tryz.isAgg28 Tryz.sizeOf28 rfl rfl rfl rfl ?_)))))))))
 refine seq_c (s_callNewF hI 55 [.agg #[iv exP.lo, iv exP.hi, slv g1 exP.loads.length c2, slv g5 exP.stands.length c6, slv g9 exP.spells.length c10, iv exP.geese], iv 11, iv 2] (fun v1 => .tuple #[v1, iv 0]) (k := 1) (E := 3) (n := 3) (xs := flat eInt [30, 35, 58]) (by kernel_rfl) (by have h8 := Moved_c _ exP (g1.map fun b => ⟨b, 0, none⟩) exP.loads.length c2 (g5.map fun b => ⟨b, 0, none⟩) exP.stands.length c6 (g9.map fun b => ⟨b, 0, none⟩) exP.spells.length c10 ⟨(hI.rowCells 5 rfl r4), rfl, (hI.rowCells 6 rfl r8), rfl, (hI.rowCells 7 rfl r12), rfl, r4.big, r8.big, r12.big⟩ 11 2 (by decide); rw [ex_moved] at h8; exact h8) ?_)
 intro g21 c22 cl23 w hI r24
 have r24 : Row 1 g21 (3) c22 cl23 (flat eInt ([30, 35, 58])) := r24
 refine pu (.tuple #[slv g21 3 c22, iv 0]) (by kernel_rfl) (pu (slv g21 3 c22) (by kernel_rfl) (pu (iv 0) (by kernel_rfl) (pu (slv g21 3 c22) (by kernel_rfl) (pu (iv 0) (by kernel_rfl) (seq_nil (wp_seq (rgn (by kernel_rfl) (pu (iv 0) (by kernel_rfl) (pu (.bool true) (by kernel_rfl) ?_)))))))))
 refine pu (.bool true) (by kernel_rfl) (puo (iv 0) ⟨(by kernel_rfl), (by kernel_rfl)⟩ (puo (.bool true) ⟨(by kernel_rfl), (by kernel_rfl)⟩ (pu (.bool true) (by kernel_rfl) (pu (.bool true) (by kernel_rfl) (puo (iv 0) ⟨(by kernel_rfl), (by kernel_rfl)⟩ (puo (.bool true) ⟨(by kernel_rfl), (by kernel_rfl)⟩ (pu (.bool true) (by kernel_rfl) (pu (.bool true) (by kernel_rfl) (puo (iv 0) ⟨(by kernel_rfl), (by kernel_rfl)⟩ ?_)))))))))
 refine puo (.bool true) ⟨(by kernel_rfl), (by kernel_rfl)⟩ (pu (.bool true) (by kernel_rfl) (pu (.bool true) (by kernel_rfl) (puo (iv 0) ⟨(by kernel_rfl), (by kernel_rfl)⟩ (puo (.bool true) ⟨(by kernel_rfl), (by kernel_rfl)⟩ (pu (.bool true) (by kernel_rfl) (pu (.bool true) (by kernel_rfl) (puo (iv 0) ⟨(by kernel_rfl), (by kernel_rfl)⟩ (puo (.bool true) ⟨(by kernel_rfl), (by kernel_rfl)⟩ (pu (.bool true) (by kernel_rfl) ?_)))))))))
 refine pu (.bool true) (by kernel_rfl) (puo (iv 0) ⟨(by kernel_rfl), (by kernel_rfl)⟩ (puo (.bool true) ⟨(by kernel_rfl), (by kernel_rfl)⟩ (pu (.bool true) (by kernel_rfl) (pu (.bool true) (by kernel_rfl) (puo (iv 0) ⟨(by kernel_rfl), (by kernel_rfl)⟩ (puo (.bool true) ⟨(by kernel_rfl), (by kernel_rfl)⟩ (pu (.bool true) (by kernel_rfl) (pu (.bool true) (by kernel_rfl) (puo (iv 0) ⟨(by kernel_rfl), (by kernel_rfl)⟩ ?_)))))))))
 refine puo (.bool true) ⟨(by kernel_rfl), (by kernel_rfl)⟩ (pu (.bool true) (by kernel_rfl) (pu (.bool true) (by kernel_rfl) (puo (iv 0) ⟨(by kernel_rfl), (by kernel_rfl)⟩ (puo (.bool true) ⟨(by kernel_rfl), (by kernel_rfl)⟩ (pu (.bool true) (by kernel_rfl) (pu (.bool true) (by kernel_rfl) (seq_nil (wp_seq (rgn (by kernel_rfl) ?_)))))))))
 refine seq_c (s_loadK hI 4 2 [iv 50, iv 75] Tryz.isAgg23 Tryz.sizeOf23 rfl rfl rfl rfl ?_)
 refine pu (.agg #[iv 50, iv 75]) (by kernel_rfl) (pu (.bool true) (by kernel_rfl) (pu (.bool true) (by kernel_rfl) (seq_on (by kernel_rfl) (s_loadK hI 3 2 [iv 15, iv 35] Tryz.isAgg23 Tryz.sizeOf23 rfl rfl rfl rfl ?_))))
 refine puo (.agg #[iv 15, iv 35]) ⟨(by kernel_rfl), (by kernel_rfl)⟩ (puo (.bool true) ⟨(by kernel_rfl), (by kernel_rfl)⟩ (pu (.bool true) (by kernel_rfl) (pu (.bool true) (by kernel_rfl) (puo (iv 2) ⟨(by kernel_rfl), (by kernel_rfl)⟩ (puo (.bool true) ⟨(by kernel_rfl), (by kernel_rfl)⟩ (pu (.bool true) (by kernel_rfl) (pu (.bool true) (by kernel_rfl) (seq_on (by kernel_rfl) (s_loadK hI 2 2 [iv 58, iv 100000] Tryz.isAgg23 Tryz.sizeOf23 rfl rfl rfl rfl ?_)))))))))
 refine puo (.agg #[iv 58, iv 100000]) ⟨(by kernel_rfl), (by kernel_rfl)⟩ (puo (.bool true) ⟨(by kernel_rfl), (by kernel_rfl)⟩ (pu (.bool true) (by kernel_rfl) (pu (.bool true) (by kernel_rfl) (puo (.bool false) ⟨(by kernel_rfl), (by kernel_rfl)⟩ (puo (.bool true) ⟨(by kernel_rfl), (by kernel_rfl)⟩ (pu (.bool true) (by kernel_rfl) (pu (.bool true) (by kernel_rfl) (seq_nil (wp_seq ?_)))))))))
 refine rgn (by kernel_rfl) (pu (iv 2) (by kernel_rfl) (pu (.bool true) (by kernel_rfl) (pu (.bool true) (by kernel_rfl) (puo (iv 1) ⟨(by kernel_rfl), (by kernel_rfl)⟩ (puo (.bool true) ⟨(by kernel_rfl), (by kernel_rfl)⟩ (pu (.bool true) (by kernel_rfl) (pu (.bool true) (by kernel_rfl) (puo (iv 0) ⟨(by kernel_rfl), (by kernel_rfl)⟩ (puo (.bool true) ⟨(by kernel_rfl), (by kernel_rfl)⟩ ?_)))))))))
 refine pu (.bool true) (by kernel_rfl) (pu (.bool true) (by kernel_rfl) (puo (slv g17 3 c18) ⟨(by kernel_rfl), (by kernel_rfl)⟩ (seq_on (by kernel_rfl) (s_new hI [iv 2, iv 11, iv 14] 3 (fun b => slv (some b) 3 3) (by kernel_rfl) ?_))))
 intro b25 w hI
 refine seq_on (by kernel_rfl) (s_callv hI 21 [slv g17 3 c18, .slice (some ⟨b25, 0, none⟩) 3 3] (.bool true) (by kernel_rfl) (Does.mono (Same_c _ [2, 11, 14] [2, 11, 14] (g17.map fun b => ⟨b, 0, none⟩) 3 c18 (some ⟨b25, 0, none⟩) 3 3 rfl rfl (by decide) (by decide) (hI.rowCells 2 rfl r20) (hI.cells 0 (off := 0) (cl := flat eInt [2, 11, 14]) rfl (fun j u h => by rw [Nat.zero_add]; exact h))) fun v' w' h => ⟨h.1.trans (congrArg Value.bool (decide_eq_true rfl)), h.2⟩) ?_)
 intro w hI
 refine pu (.bool true) (by kernel_rfl) (pu (.bool true) (by kernel_rfl) (puo (slv g21 3 c22) ⟨(by kernel_rfl), (by kernel_rfl)⟩ (seq_on (by kernel_rfl) (s_new hI [iv 30, iv 35, iv 58] 3 (fun b => slv (some b) 3 3) (by kernel_rfl) ?_))))
 intro b26 w hI
 refine seq_on (by kernel_rfl) (s_callv hI 21 [slv g21 3 c22, .slice (some ⟨b26, 0, none⟩) 3 3] (.bool true) (by kernel_rfl) (Does.mono (Same_c _ [30, 35, 58] [30, 35, 58] (g21.map fun b => ⟨b, 0, none⟩) 3 c22 (some ⟨b26, 0, none⟩) 3 3 rfl rfl (by decide) (by decide) (hI.rowCells 2 rfl r24) (hI.cells 0 (off := 0) (cl := flat eInt [30, 35, 58]) rfl (fun j u h => by rw [Nat.zero_add]; exact h))) fun v' w' h => ⟨h.1.trans (congrArg Value.bool (decide_eq_true rfl)), h.2⟩) ?_)
 intro w hI
 refine pu (.bool true) (by kernel_rfl) (pu (.bool true) (by kernel_rfl) (seq_nil (wp_seq (rgn (by kernel_rfl) (pu (.bool true) (by kernel_rfl) (pu (.bool true) (by kernel_rfl) (puo (.bool true) ⟨(by kernel_rfl), (by kernel_rfl)⟩ (pu (.bool true) (by kernel_rfl) (pu (.bool true) (by kernel_rfl) ?_)))))))))
 refine puo (.bool true) ⟨(by kernel_rfl), (by kernel_rfl)⟩ (pu (.bool true) (by kernel_rfl) (pu (.bool true) (by kernel_rfl) (seq_nil (wp_ret ?_))))
 exact ⟨.bool true, Ret.r1 rfl rfl, ⟨rfl, hI.below⟩⟩

end Go.K
