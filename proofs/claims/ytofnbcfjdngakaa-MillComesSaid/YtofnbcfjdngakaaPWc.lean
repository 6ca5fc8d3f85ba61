/- That the functions do what the pure definitions say: walks, as tools/lift.py writes them. No condition. -/
import Derived.Test.YtofnbcfjdngakaaPWb
namespace Go.K
open Go.Proofs Go.RowKit
set_option linter.unusedVariables false
set_option linter.unusedSimpArgs false
set_option maxRecDepth 100000
attribute [local irreducible] Seq Step CallV AnyE opX
theorem L57 (w0 : World) (p0_0 : Int) (Ap0_1 : Option Addr) (cp0_1 : Nat) (lp0_1 : List Cm) (p1 : Int) (hCp0_1 : Cells w0 Ap0_1 (flat eCm lp0_1)) (hMp0_1 : lp0_1.length ≤ 9223372036854775807) (hKp0_1 : lp0_1.length ≤ cp0_1) (N : Nat) (r : (List Int × Int)) (hF : F57 N p0_0 lp0_1 p1 = some r) : Does Try.prog 57 [.agg #[.int .i64 p0_0, .slice Ap0_1 lp0_1.length cp0_1], .int .i64 p1] w0 fun v w => ∃ (z0 : Option Nat) (z1 : Nat) (z2 : List Value), v = .tuple #[slv z0 r.1.length z1, .int .i64 r.2] ∧ Inv [] w0 w [(z0, blk z2 3)] ∧ Row 1 z0 r.1.length z1 z2 (flat eInt r.1) := by
 refine calls_of (n := 69) Try.func57 rfl Try.ntmps57 rfl ?_
 have hI := Inv.start w0
 unfold F57 at hF
 refine wp_seq (rgn (by kernel_rfl) (seq_c (s_boxI hI [iv p0_0, .slice Ap0_1 lp0_1.length cp0_1] rfl ?_)))
 intro b765 w hI
 refine pu (.slice none 0 0) (by kernel_rfl) (pu (iv 0) (by kernel_rfl) (seq_nil (wp_seq (rgn (by kernel_rfl) (seq_c (s_loadK hI 0 2 [iv p0_0, .slice Ap0_1 lp0_1.length cp0_1] Try.isAgg24 Try.sizeOf24 rfl rfl rfl rfl ?_))))))
 refine pu (iv p1) (by kernel_rfl) (bindE hF (fun y768 hy769 hF => ?_))
 refine seq_c (s_callv hI 66 [.agg #[iv p0_0, .slice Ap0_1 lp0_1.length cp0_1], iv p1] (.tuple #[iv y768.1, iv y768.2]) (by kernel_rfl) (L66 _ p0_0 Ap0_1 cp0_1 lp0_1 p1 (hCp0_1.inv0 hI) hMp0_1 hKp0_1 N _ hy769) ?_)
 intro w hI
 refine pu (.tuple #[iv y768.1, iv y768.2]) (by kernel_rfl) (pu (iv y768.1) (by kernel_rfl) (pu (iv y768.2) (by kernel_rfl) (pu (iv y768.1) (by kernel_rfl) (pu (iv y768.2) (by kernel_rfl) (seq_nil (wp_seq (wp_seq (rgn (by kernel_rfl) (pu (iv y768.2) (by kernel_rfl) ?_)))))))))
 refine ifE hF (fun h74 hF => ?_) (fun h74 hF => ?_)
 ·
  refine seq_c (s_neq rfl rfl (fun h => absurd (a := y768.2 = 0) h74 h) (fun _ => ?_))
  refine seq_nil (wp_condF rfl (wp_skip (wp_seq (rgn (by kernel_rfl) (seq_c (s_loadK hI 0 2 [iv p0_0, .slice Ap0_1 lp0_1.length cp0_1] Try.isAgg24 Try.sizeOf24 rfl rfl rfl rfl ?_))))))
  refine pu (iv y768.1) (by kernel_rfl) (bindE hF (fun y777 hy778 hF => ?_))
  refine seq_c (s_call 67 [.agg #[iv p0_0, .slice Ap0_1 lp0_1.length cp0_1], iv y768.1] (by kernel_rfl) (L67 _ p0_0 Ap0_1 cp0_1 lp0_1 y768.1 (hCp0_1.inv0 hI) hMp0_1 hKp0_1 _ hy778) ?_)
  rintro v w ⟨g779, c780, cl781, rfl, hN, r782⟩
  have hI := hI.join hN; clear hN
  refine seq_c (s_allocI hI [iv 0, .slice none 0 0] Try.zeroValue24 rfl ?_)
  intro b783 w hI
  refine seq_c (s_store hI 0 2 [iv y777.1, slv g779 y777.2.length c780] Try.sizeOf24 rfl rfl rfl rfl rfl (Nat.le_of_ble_eq_true rfl) ?_)
  intro w hI
  refine seq_nil (wp_seq (rgn (by kernel_rfl) (seq_c (s_loadK hI 2 2 [iv p0_0, .slice Ap0_1 lp0_1.length cp0_1] Try.isAgg24 Try.sizeOf24 rfl rfl rfl rfl ?_))))
  refine bindE hF (fun y795 hy796 hF => ?_)
  refine seq_c (s_call 80 [.agg #[iv p0_0, .slice Ap0_1 lp0_1.length cp0_1]] (by kernel_rfl) (L80 _ p0_0 Ap0_1 cp0_1 lp0_1 (hCp0_1.inv0 hI) hMp0_1 hKp0_1 N _ hy796) ?_)
  rintro v w ⟨g797, c798, cl799, g800, c801, cl802, rfl, hN, r803, r804⟩
  have hI := hI.join hN; clear hN
  refine pu (.tuple #[.agg #[iv y795.1, .slice Ap0_1 lp0_1.length cp0_1, slv g797 y795.2.1.length c798], slv g800 y795.2.2.length c801]) (by kernel_rfl) (pu (.agg #[iv y795.1, .slice Ap0_1 lp0_1.length cp0_1, slv g797 y795.2.1.length c798]) (by kernel_rfl) (pu (slv g800 y795.2.2.length c801) (by kernel_rfl) (seq_c (s_allocI hI [iv 0, .slice none 0 0, .slice none 0 0] Try.zeroValue93 rfl ?_))))
  intro b805 w hI
  refine seq_c (s_store hI 0 3 [iv y795.1, .slice Ap0_1 lp0_1.length cp0_1, slv g797 y795.2.1.length c798] Try.sizeOf93 rfl rfl rfl rfl rfl (Nat.le_of_ble_eq_true rfl) ?_)
  intro w hI
  refine pu (slv g800 y795.2.2.length c801) (by kernel_rfl) (seq_nil (wp_seq (rgn (by kernel_rfl) (pu (slv g800 y795.2.2.length c801) (by kernel_rfl) (pu (iv y768.1) (by kernel_rfl) (pu (iv y768.1) (by kernel_rfl) (ckE hF (fun h77 hF => ?_))))))))
  refine seq_c (s_add rfl rfl h77 ?_)
  refine gdE hF (fun h78 hF => ?_)
  obtain ⟨b813, rfl⟩ := r804.some_ (len_ge rfl h78)
  refine bindE hF (fun y814 hy815 hF => ?_)
  refine seq_c (s_call 96 [slv (some b813) y795.2.2.length c801, iv y768.1, iv (y768.1 + 1)] (by kernel_rfl) (L96 _ b813 c801 cl802 y795.2.2 y768.1 (y768.1 + 1) (hI.has 2 _ _ rfl).1 (r804.to rfl rfl) _ hy815) ?_)
  rintro v w ⟨g816, c817, cl818, rfl, hN, r819⟩
  have hI := hI.back 2 rfl hN; clear hN; have hI := hI.nils 3 _ rfl (blk [] 3)
  refine pu (slv g816 y814.length c817) (by kernel_rfl) (seq_nil (wp_seq (rgn (by kernel_rfl) (seq_c (s_loadK hI 4 2 [iv y777.1, slv g779 y777.2.length c780] Try.isAgg24 Try.sizeOf24 rfl rfl rfl rfl ?_)))))
  refine bindE hF (fun y831 hy832 hF => ?_)
  refine seq_c (s_call 80 [.agg #[iv y777.1, slv g779 y777.2.length c780]] (by kernel_rfl) (L80 _ y777.1 (g779.map fun b => ⟨b, 0, none⟩) c780 y777.2 (hI.rowCells 5 rfl r782) (len_le rfl r782.big) (len_le rfl r782.cap) N _ hy832) ?_)
  rintro v w ⟨g833, c834, cl835, g836, c837, cl838, rfl, hN, r839, r840⟩
  have hI := hI.join hN; clear hN
  refine pu (.tuple #[.agg #[iv y831.1, slv g779 y777.2.length c780, slv g833 y831.2.1.length c834], slv g836 y831.2.2.length c837]) (by kernel_rfl) (pu (.agg #[iv y831.1, slv g779 y777.2.length c780, slv g833 y831.2.1.length c834]) (by kernel_rfl) (pu (slv g836 y831.2.2.length c837) (by kernel_rfl) (seq_c (s_allocI hI [iv 0, .slice none 0 0, .slice none 0 0] Try.zeroValue93 rfl ?_))))
  intro b841 w hI
  refine seq_c (s_store hI 0 3 [iv y831.1, slv g779 y777.2.length c780, slv g833 y831.2.1.length c834] Try.sizeOf93 rfl rfl rfl rfl rfl (Nat.le_of_ble_eq_true rfl) ?_)
  intro w hI
  refine pu (slv g836 y831.2.2.length c837) (by kernel_rfl) (seq_nil (wp_seq (rgn (by kernel_rfl) (pu (.slice none 0 0) (by kernel_rfl) (seq_nil (wp_cutO (fun ρ w => ∃ (g1182 : Option Nat) (c1183 : Nat) (cl1184 : List Value) (u1181 : List Int), Agree ρ [(13, slv g1182 u1181.length c1183)] ∧ Inv [] w0 w [(g1182, blk cl1184 3)] ∧ (Row 1 g1182 (u1181.length) c1183 cl1184 (flat eInt u1181)) ∧ F57j1 u1181 = some r) ?_ ?_))))))
  ·
   refine wp_seq (rgn (by kernel_rfl) (pu (.pointer (some ⟨b783, 1, none⟩)) (by kernel_rfl) (seq_c (s_load1 hI 7 (slv g779 y777.2.length c780) Try.isAgg22 rfl rfl rfl ?_))))
   refine pu (iv ((y777.2.length : Nat) : Int)) (by kernel_rfl) (pu (iv 0) (by kernel_rfl) (seq_nil (wp_block ?_)))
   have hI := hI.nilRow 3
   refine wp_loop (fun m ρ w => ∃ (g1410 : Option Nat) (c1411 : Nat) (cl1412 : List Value) (g1414 : Option Nat) (c1415 : Nat) (cl1416 : List Value) (g1419 : Option Nat) (c1420 : Nat) (cl1421 : List Value) (g1423 : Option Nat) (c1424 : Nat) (cl1425 : List Value) (u1418 : List Int) (v1427 : Int) (mm : Nat), Agree ρ [(10, slv g1410 y814.length c1411), (12, slv g1414 y831.2.2.length c1415), (13, slv g1419 u1418.length c1420), (44, slv g1423 y777.2.length c1424), (45, iv (y777.2.length : Int)), (46, iv v1427)] ∧ Inv [] w0 w [(g1410, blk cl1412 3), (g1414, blk cl1416 3), (g1419, blk cl1421 3), (g1423, blk cl1425 26)] ∧ (Row 1 g1410 (y814.length) c1411 cl1412 (flat eInt y814)) ∧ (Row 1 g1414 (y831.2.2.length) c1415 cl1416 (flat eInt y831.2.2)) ∧ (Row 1 g1419 (u1418.length) c1420 cl1421 (flat eInt u1418)) ∧ (Row 3 g1423 (y777.2.length) c1424 cl1425 (flat eCm y777.2)) ∧ F57l2 y777 y814 y831 mm u1418 v1427 = some r ∧ mm = m) (m := N) ⟨g816, c817, cl818, g836, c837, cl838, none, 0, [], g779, c780, cl781, [], 0, N, ⟨rfl, rfl, rfl, rfl, rfl, rfl, trivial⟩, hI.pickL [4, 3, 0, 9] (by decide) rfl, (r819.to rfl rfl), (r840.to rfl rfl), (Row.nil_ 1), (r782.to rfl rfl), hF, rfl⟩ ?_
   rintro m ρ w ⟨g1410, c1411, cl1412, g1414, c1415, cl1416, g1419, c1420, cl1421, g1423, c1424, cl1425, u1418, v1427, mm, hag, hI, r1413, r1417, r1422, r1426, hF, hm⟩
   subst hm; obtain ⟨ρ, rfl⟩ := hag.form; clear hag
   obtain _ | m2 := mm
   ·cases (show (none : Option (List Int × Int)) = some r from hF)
   replace hF : F57b2 y777 y814 y831 (F57l2 y777 y814 y831 m2) u1418 v1427 = some r := hF; unfold F57b2 at hF
   refine wp_seq (rgn (by kernel_rfl) (ifE hF (fun h131 hF => ?_) (fun h131 hF => ?_)))
   ·
    refine seq_c (s_lss rfl rfl (fun _ => ?_) (fun h => absurd (a := v1427 < (y777.2.length : Int)) h131 h))
    refine seq_nil (wp_seq (wp_condT rfl (wp_skip (wp_cutO (fun ρ w => ∃ (g1470 : Option Nat) (c1471 : Nat) (cl1472 : List Value) (g1474 : Option Nat) (c1475 : Nat) (cl1476 : List Value) (g1479 : Option Nat) (c1480 : Nat) (cl1481 : List Value) (g1483 : Option Nat) (c1484 : Nat) (cl1485 : List Value) (u1478 : List Int), Agree ρ [(10, slv g1470 y814.length c1471), (12, slv g1474 y831.2.2.length c1475), (13, slv g1479 u1478.length c1480), (44, slv g1483 y777.2.length c1484), (45, iv (y777.2.length : Int)), (46, iv v1427)] ∧ Inv [] w0 w [(g1470, blk cl1472 3), (g1474, blk cl1476 3), (g1479, blk cl1481 3), (g1483, blk cl1485 26)] ∧ (Row 1 g1470 (y814.length) c1471 cl1472 (flat eInt y814)) ∧ (Row 1 g1474 (y831.2.2.length) c1475 cl1476 (flat eInt y831.2.2)) ∧ (Row 1 g1479 (u1478.length) c1480 cl1481 (flat eInt u1478)) ∧ (Row 3 g1483 (y777.2.length) c1484 cl1485 (flat eCm y777.2)) ∧ F57j3 (F57l2 y777 y814 y831 m2) v1427 u1478 = some r) ?_ ?_))))
    ·
     refine wp_block ?_
     refine wp_seq (rgn (by kernel_rfl) (pu (iv v1427) (by kernel_rfl) (gdE hF (fun h137 hF => ?_))))
     refine bindE hF (fun x1487 hx1488 hF => ?_)
     obtain ⟨b1489, rfl, he1490⟩ := r1426.at_ eCm_len (by decide) hx1488
     refine seq_c (s_indexR (v1427).toNat Try.underlying22 Try.sizeOf26 rfl rfl (Int.toNat_of_nonneg h137).symm (lt_n hx1488 rfl) ?_)
     refine seq_c (s_loadRK hI 3 [iv x1487.fam, iv x1487.hrs, iv x1487.wants] Try.isAgg26 Try.sizeOf26 rfl rfl rfl he1490 ?_)
     refine seq_c (s_allocI hI [iv 0, iv 0, iv 0] Try.zeroValue26 rfl ?_)
     intro b1491 w hI
     refine pu (iv v1427) (by kernel_rfl) (seq_c (s_store hI 0 3 [iv x1487.fam, iv x1487.hrs, iv x1487.wants] Try.sizeOf26 rfl rfl rfl rfl rfl (Nat.le_of_ble_eq_true rfl) ?_))
     intro w hI
     refine seq_nil (wp_seq (bindE hF (fun x1508 hx1509 hF => ?_)))
     refine bindE hF (fun x1512 hx1513 hF => ?_)
     refine ifE hF (fun h139 hF => ?_) (fun h139 hF => ?_)
     ·
      refine wp_drawn2 hI [0, 1, 2, 3, 4] (by decide) rfl (by kernel_rfl) (by kernel_rfl) ?_
      intro hsub
      refine alp 0 (slv g1410 y814.length c1411) hsub rfl (by kernel_rfl) (fun _ => (by kernel_rfl)) ?_
      refine alp 1 (iv v1427) hsub rfl (by kernel_rfl) (fun _ => (by kernel_rfl)) ?_
      obtain ⟨b1516, rfl, he1517⟩ := r1413.at_ eInt_len (by decide) hx1509
      refine al_light 2 (.pointer (some ⟨b1516, (v1427).toNat * 1, none⟩)) hsub rfl (by kernel_rfl) (fun w hI => s_indexR (v1427).toNat Try.underlying49 Try.sizeOf3 rfl rfl (Int.toNat_of_nonneg h137).symm (lt_n hx1509 rfl) ⟨rfl, Below.refl _ _⟩) ?_
      refine al_light 3 (iv x1508) hsub rfl (by kernel_rfl) (fun w hI => s_loadR1 hI 1 (iv x1508) Try.isAgg3 rfl rfl (he1517 0 _ rfl) ⟨rfl, Below.refl _ _⟩) ?_
      refine alp 4 (slv g1414 y831.2.2.length c1415) hsub rfl (by kernel_rfl) (fun _ => (by kernel_rfl)) ?_
      refine alp 5 (iv v1427) hsub rfl (by kernel_rfl) (fun _ => (by kernel_rfl)) ?_
      obtain ⟨b1518, rfl, he1519⟩ := r1417.at_ eInt_len (by decide) hx1513
      refine al_light 6 (.pointer (some ⟨b1518, (v1427).toNat * 1, none⟩)) hsub rfl (by kernel_rfl) (fun w hI => s_indexR (v1427).toNat Try.underlying49 Try.sizeOf3 rfl rfl (Int.toNat_of_nonneg h137).symm (lt_n hx1513 rfl) ⟨rfl, Below.refl _ _⟩) ?_
      refine al_light 7 (iv x1512) hsub rfl (by kernel_rfl) (fun w hI => s_loadR1 hI 2 (iv x1512) Try.isAgg3 rfl rfl (he1519 0 _ rfl) ⟨rfl, Below.refl _ _⟩) ?_
      refine al_light 8 (.bool false) hsub rfl (by kernel_rfl) (fun w hI => s_neq rfl rfl (fun h => absurd (a := x1508 = x1512) h139 h) (fun _ => ⟨rfl, Below.refl _ _⟩)) ?_
      refine any_end (by kernel_rfl) (fun w hI => ?_)
      refine wp_condF rfl (wp_skip ?_)
      exact .inl ⟨rfl, ⟨some b1516, c1411, cl1412, some b1518, c1415, cl1416, g1419, c1420, cl1421, some b1489, c1424, cl1425, u1418, ⟨rfl, rfl, rfl, rfl, rfl, rfl, trivial⟩, hI.pickL [1, 2, 3, 4] (by decide) rfl, (r1413.to rfl rfl), (r1417.to rfl rfl), (r1422.to rfl rfl), (r1426.to rfl rfl), hF⟩⟩
     ·
      refine wp_drawn2 hI [0, 1, 2, 3, 4] (by decide) rfl (by kernel_rfl) (by kernel_rfl) ?_
      intro hsub
      refine alp 0 (slv g1410 y814.length c1411) hsub rfl (by kernel_rfl) (fun _ => (by kernel_rfl)) ?_
      refine alp 1 (iv v1427) hsub rfl (by kernel_rfl) (fun _ => (by kernel_rfl)) ?_
      obtain ⟨b1520, rfl, he1521⟩ := r1413.at_ eInt_len (by decide) hx1509
      refine al_light 2 (.pointer (some ⟨b1520, (v1427).toNat * 1, none⟩)) hsub rfl (by kernel_rfl) (fun w hI => s_indexR (v1427).toNat Try.underlying49 Try.sizeOf3 rfl rfl (Int.toNat_of_nonneg h137).symm (lt_n hx1509 rfl) ⟨rfl, Below.refl _ _⟩) ?_
      refine al_light 3 (iv x1508) hsub rfl (by kernel_rfl) (fun w hI => s_loadR1 hI 1 (iv x1508) Try.isAgg3 rfl rfl (he1521 0 _ rfl) ⟨rfl, Below.refl _ _⟩) ?_
      refine alp 4 (slv g1414 y831.2.2.length c1415) hsub rfl (by kernel_rfl) (fun _ => (by kernel_rfl)) ?_
      refine alp 5 (iv v1427) hsub rfl (by kernel_rfl) (fun _ => (by kernel_rfl)) ?_
      obtain ⟨b1522, rfl, he1523⟩ := r1417.at_ eInt_len (by decide) hx1513
      refine al_light 6 (.pointer (some ⟨b1522, (v1427).toNat * 1, none⟩)) hsub rfl (by kernel_rfl) (fun w hI => s_indexR (v1427).toNat Try.underlying49 Try.sizeOf3 rfl rfl (Int.toNat_of_nonneg h137).symm (lt_n hx1513 rfl) ⟨rfl, Below.refl _ _⟩) ?_
      refine al_light 7 (iv x1512) hsub rfl (by kernel_rfl) (fun w hI => s_loadR1 hI 2 (iv x1512) Try.isAgg3 rfl rfl (he1523 0 _ rfl) ⟨rfl, Below.refl _ _⟩) ?_
      refine al_light 8 (.bool true) hsub rfl (by kernel_rfl) (fun w hI => s_neq rfl rfl (fun _ => ⟨rfl, Below.refl _ _⟩) (fun h => absurd (a := x1508 = x1512) h h139)) ?_
      refine any_end (by kernel_rfl) (fun w hI => ?_)
      refine wp_condT rfl (rgn (by kernel_rfl) (pu (slv g1419 u1418.length c1420) (by kernel_rfl) (pu (.pointer (some ⟨b1491, 0, none⟩)) (by kernel_rfl) (seq_c (s_load1 hI 0 (iv x1487.fam) Try.isAgg3 rfl rfl rfl ?_)))))
      refine seq_c (s_new hI [iv x1487.fam] 3 (fun b => slv (some b) 1 1) (by kernel_rfl) ?_)
      intro b1524 w hI
      refine gdE hF (fun h140 hF => ?_)
      refine seq_c (s_appN hI Try.underlying49 (z := iv 0) (k := 1) (bytes := 8) (by kernel_rfl) rfl rfl 4 rfl rfl r1422 [iv x1487.fam] rfl rfl (hI.cells 0 (off := 0) rfl (fun j u h => by rw [Nat.zero_add]; exact h)) (by simp [Value.oneCell']) (by omega) (by omega) (n2 := (u1418 ++ [x1487.fam]).length) (app_len rfl rfl) ?_)
      intro g1525 c1526 cl1527 w hI r1528
      have r1528 : Row 1 g1525 ((u1418 ++ [x1487.fam]).length) c1526 cl1527 (flat eInt (u1418 ++ [x1487.fam])) := r1528.snoc _ rfl
      refine pu (slv g1525 ((u1418 ++ [x1487.fam]).length) c1526) (by kernel_rfl) (seq_nil ?_)
      exact .inl ⟨rfl, ⟨some b1520, c1411, cl1412, some b1522, c1415, cl1416, g1525, c1526, cl1527, some b1489, c1424, cl1425, u1418 ++ [x1487.fam], ⟨rfl, rfl, rfl, rfl, rfl, rfl, trivial⟩, hI.pickL [2, 3, 4, 5] (by decide) rfl, (r1413.to rfl rfl), (r1417.to rfl rfl), (r1528.to rfl rfl), (r1426.to rfl rfl), hF⟩⟩
    ·intro ρ w hJ
     obtain ⟨g1470, c1471, cl1472, g1474, c1475, cl1476, g1479, c1480, cl1481, g1483, c1484, cl1485, u1478, hag, hI, r1473, r1477, r1482, r1486, hF⟩ := hJ
     obtain ⟨ρ, rfl⟩ := hag.form; clear hag
     unfold F57j3 at hF
     refine rgn (by kernel_rfl) (ckE hF (fun h136 hF => ?_))
     refine seq_c (s_add rfl rfl h136 ?_)
     refine pu (iv (v1427 + 1)) (by kernel_rfl) (seq_nil ?_)
     exact ⟨rfl, m2, Nat.lt_succ_self _, ⟨g1470, c1471, cl1472, g1474, c1475, cl1476, g1479, c1480, cl1481, g1483, c1484, cl1485, u1478, v1427 + 1, m2, ⟨rfl, rfl, rfl, rfl, rfl, rfl, trivial⟩, hI.pickL [0, 1, 2, 3] (by decide) rfl, (r1473.to rfl rfl), (r1477.to rfl rfl), (r1482.to rfl rfl), (r1486.to rfl rfl), hF, rfl⟩⟩
   ·
    refine seq_c (s_lss rfl rfl (fun h => absurd (a := v1427 < (y777.2.length : Int)) h h131) (fun _ => ?_))
    refine seq_nil (wp_seq (wp_condF rfl (wp_exit ?_)))
    exact .inl ⟨rfl, ⟨g1419, c1420, cl1421, u1418, ⟨rfl, trivial⟩, hI.pickL [2] (by decide) rfl, (r1422.to rfl rfl), hF⟩⟩
  ·intro ρ w hJ
   obtain ⟨g1182, c1183, cl1184, u1181, hag, hI, r1185, hF⟩ := hJ
   obtain ⟨ρ, rfl⟩ := hag.form; clear hag
   unfold F57j1 at hF
   refine wp_seq (rgn (by kernel_rfl) (pu (slv g1182 u1181.length c1183) (by kernel_rfl) (gdE hF (fun h110 hF => ?_))))
   refine seq_c (s_call 97 [slv g1182 u1181.length c1183] (by kernel_rfl) (sort_c hI 0 rfl r1185 h110) ?_)
   rintro v w ⟨rfl, cl1188, hI, r1189⟩
   refine seq_nil (wp_seq (rgn (by kernel_rfl) (pu (slv g1182 u1181.length c1183) (by kernel_rfl) (pu (slv g1182 u1181.length c1183) (by kernel_rfl) (pu (iv 0) (by kernel_rfl) (seq_nil (wp_ret ?_)))))))
   replace hF := Option.some.inj hF; subst hF
   exact ⟨.tuple #[slv g1182 u1181.length c1183, iv 0], Ret.r2 rfl rfl rfl, ⟨g1182, c1183, cl1188, (by first | (simp only [List.length_set, sortI_len] <;> rfl) | rfl), hI.pickL [0] (by decide) rfl, r1189.to rfl (r1189.n_eq eInt_len (by decide))⟩⟩
 ·
  refine seq_c (s_neq rfl rfl (fun _ => ?_) (fun h => absurd (a := y768.2 = 0) h h74))
  refine seq_nil (wp_condT rfl (wp_seq (rgn (by kernel_rfl) (pu (iv y768.2) (by kernel_rfl) (pu (.slice none 0 0) (by kernel_rfl) (pu (iv y768.2) (by kernel_rfl) (seq_nil (wp_ret ?_))))))))
  have hI := hI.nilRow 3
  replace hF := Option.some.inj hF; subst hF
  exact ⟨.tuple #[.slice none 0 0, iv y768.2], Ret.r2 rfl rfl rfl, ⟨none, 0, [], rfl, hI.pickL [0] (by decide) rfl, Row.nil_ 1⟩⟩


theorem L72 (w0 : World) (r : (Int × List Cm)) (hF : F72 = some r) : Does Try.prog 72 [] w0 fun v w => ∃ (z0 : Option Nat) (z1 : Nat) (z2 : List Value), v = .agg #[.int .i64 r.1, slv z0 r.2.length z1] ∧ Inv [] w0 w [(z0, blk z2 26)] ∧ Row 3 z0 r.2.length z1 z2 (flat eCm r.2) := by
 refine calls_of (n := 7) Try.func72 rfl Try.ntmps72 rfl ?_
 have hI := Inv.start w0
 unfold F72 at hF
 refine wp_seq (rgn (by kernel_rfl) (seq_c (s_allocI hI [iv 0, .slice none 0 0] Try.zeroValue24 rfl ?_)))
 intro b4 w hI
 refine seq_nil (wp_seq (rgn (by kernel_rfl) (pu (.agg #[iv 7, iv 7, iv 4]) (by kernel_rfl) (pu (.agg #[iv 4, iv 6, iv 1]) (by kernel_rfl) (pu (.agg #[iv 9, iv 28, iv 3]) (by kernel_rfl) (pu (.agg #[iv 2, iv 24, iv 2]) (by kernel_rfl) (seq_c (s_new hI [iv 7, iv 7, iv 4, iv 4, iv 6, iv 1, iv 9, iv 28, iv 3, iv 2, iv 24, iv 2] 26 (fun b => slv (some b) 4 4) (by kernel_rfl) ?_))))))))
 intro b5 w hI
 refine pu (.agg #[iv 6, .slice (some ⟨b5, 0, none⟩) 4 4]) (by kernel_rfl) (seq_c (s_store hI 1 2 [iv 6, .slice (some ⟨b5, 0, none⟩) 4 4] Try.sizeOf24 rfl rfl rfl rfl rfl (Nat.le_of_ble_eq_true rfl) ?_))
 intro w hI
 refine seq_nil (wp_ret ?_)
 have r6 : Row 3 (some b5) 4 4 [iv 7, iv 7, iv 4, iv 4, iv 6, iv 1, iv 9, iv 28, iv 3, iv 2, iv 24, iv 2] (flat eCm [(⟨7, 7, 4⟩ : Cm), (⟨4, 6, 1⟩ : Cm), (⟨9, 28, 3⟩ : Cm), (⟨2, 24, 2⟩ : Cm)]) := Row.lit eCm_len (l := [(⟨7, 7, 4⟩ : Cm), (⟨4, 6, 1⟩ : Cm), (⟨9, 28, 3⟩ : Cm), (⟨2, 24, 2⟩ : Cm)]) rfl (Nat.le_of_ble_eq_true rfl)
 replace hF := Option.some.inj hF; subst hF
 exact ⟨.agg #[iv 6, slv (some b5) 4 4], Ret.c rfl rfl (run_loadK hI 1 2 [iv 6, slv (some b5) 4 4] Try.isAgg24 Try.sizeOf24 rfl rfl rfl), ⟨some b5, 4, [iv 7, iv 7, iv 4, iv 4, iv 6, iv 1, iv 9, iv 28, iv 3, iv 2, iv 24, iv 2], (by first | (simp only [List.length_set, sortI_len] <;> rfl) | rfl), hI.pickL [0] (by decide) rfl, r6.to rfl rfl⟩⟩


theorem L25 (w0 : World) (N : Nat) (r : Bool) (hF : F25 N = some r) : Does Try.prog 25 [] w0 fun v w => v = .bool r ∧ Below w0.heap.size w0 w := by
 refine calls_of (n := 173) Try.func25 rfl Try.ntmps25 rfl ?_
 have hI := Inv.start w0
 unfold F25 at hF
 refine wp_seq (rgn (by kernel_rfl) (pu (.bool false) (by kernel_rfl) (seq_nil (wp_seq (rgn (by kernel_rfl) (bindE hF (fun y128 hy129 hF => ?_)))))))
 refine seq_c (s_call 72 [] (by kernel_rfl) (L72 _ _ hy129) ?_)
 rintro v w ⟨g130, c131, cl132, rfl, hN, r133⟩
 have hI := hI.join hN; clear hN
 refine seq_c (s_allocI hI [iv 0, .slice none 0 0] Try.zeroValue24 rfl ?_)
 intro b134 w hI
 refine seq_c (s_store hI 0 2 [iv y128.1, slv g130 y128.2.length c131] Try.sizeOf24 rfl rfl rfl rfl rfl (Nat.le_of_ble_eq_true rfl) ?_)
 intro w hI
 refine seq_nil (wp_seq (rgn (by kernel_rfl) (pu (.agg #[iv 40, iv 60]) (by kernel_rfl) (pu (.agg #[iv 40, iv 60, iv 16]) (by kernel_rfl) (seq_c (s_allocI hI [iv 0, iv 0, iv 0] Try.zeroValue30 rfl ?_))))))
 intro b135 w hI
 refine seq_c (s_store hI 0 3 [iv 40, iv 60, iv 16] Try.sizeOf30 rfl rfl rfl rfl rfl (Nat.le_of_ble_eq_true rfl) ?_)
 intro w hI
 refine seq_nil (wp_seq (rgn (by kernel_rfl) (seq_c (s_loadK hI 0 3 [iv 40, iv 60, iv 16] Try.isAgg30 Try.sizeOf30 rfl rfl rfl rfl ?_))))
 refine pu (.agg #[iv 10, iv 35]) (by kernel_rfl) (bindE hF (fun y139 hy140 hF => ?_))
 refine seq_c (s_callv hI 26 [.agg #[iv 40, iv 60, iv 16], .agg #[iv 10, iv 35]] (.tuple #[.agg #[iv y139.1, iv y139.2.1], iv y139.2.2]) (by kernel_rfl) (L26 _ (⟨40, 60, 16⟩ : Yl) (⟨10, 35⟩ : Rg) _ hy140) ?_)
 intro w hI
 refine pu (.tuple #[.agg #[iv y139.1, iv y139.2.1], iv y139.2.2]) (by kernel_rfl) (pu (.agg #[iv y139.1, iv y139.2.1]) (by kernel_rfl) (pu (iv y139.2.2) (by kernel_rfl) (seq_c (s_allocI hI [iv 0, iv 0] Try.zeroValue28 rfl ?_))))
 intro b141 w hI
 refine seq_c (s_store hI 0 2 [iv y139.1, iv y139.2.1] Try.sizeOf28 rfl rfl rfl rfl rfl (Nat.le_of_ble_eq_true rfl) ?_)
 intro w hI
 refine pu (iv y139.2.2) (by kernel_rfl) (seq_nil (wp_seq (rgn (by kernel_rfl) (seq_c (s_loadK hI 1 3 [iv 40, iv 60, iv 16] Try.isAgg30 Try.sizeOf30 rfl rfl rfl rfl ?_)))))
 refine pu (.agg #[iv 40, iv 40]) (by kernel_rfl) (bindE hF (fun y145 hy146 hF => ?_))
 refine seq_c (s_callv hI 30 [.agg #[iv 40, iv 60, iv 16], .agg #[iv 40, iv 40]] (.tuple #[.agg #[iv y145.1, iv y145.2.1], iv y145.2.2]) (by kernel_rfl) (L30 _ (⟨40, 60, 16⟩ : Yl) (⟨40, 40⟩ : Rg) _ hy146) ?_)
 intro w hI
 refine pu (.tuple #[.agg #[iv y145.1, iv y145.2.1], iv y145.2.2]) (by kernel_rfl) (pu (.agg #[iv y145.1, iv y145.2.1]) (by kernel_rfl) (pu (iv y145.2.2) (by kernel_rfl) (seq_c (s_allocI hI [iv 0, iv 0] Try.zeroValue28 rfl ?_))))
 intro b147 w hI
 refine seq_c (s_store hI 0 2 [iv y145.1, iv y145.2.1] Try.sizeOf28 rfl rfl rfl rfl rfl (Nat.le_of_ble_eq_true rfl) ?_)
 intro w hI
 refine pu (iv y145.2.2) (by kernel_rfl) (seq_nil (wp_seq (rgn (by kernel_rfl) (seq_c (s_loadK hI 2 3 [iv 40, iv 60, iv 16] Try.isAgg30 Try.sizeOf30 rfl rfl rfl rfl ?_)))))
 refine pu (.agg #[iv 4, iv 4]) (by kernel_rfl) (bindE hF (fun y151 hy152 hF => ?_))
 refine seq_c (s_callv hI 32 [.agg #[iv 40, iv 60, iv 16], .agg #[iv 4, iv 4]] (.tuple #[.agg #[iv y151.1, iv y151.2.1], iv y151.2.2]) (by kernel_rfl) (L32 _ (⟨40, 60, 16⟩ : Yl) (⟨4, 4⟩ : Rg) N _ hy152) ?_)
 intro w hI
 refine pu (.tuple #[.agg #[iv y151.1, iv y151.2.1], iv y151.2.2]) (by kernel_rfl) (pu (.agg #[iv y151.1, iv y151.2.1]) (by kernel_rfl) (pu (iv y151.2.2) (by kernel_rfl) (seq_c (s_allocI hI [iv 0, iv 0] Try.zeroValue28 rfl ?_))))
 intro b153 w hI
 refine seq_c (s_store hI 0 2 [iv y151.1, iv y151.2.1] Try.sizeOf28 rfl rfl rfl rfl rfl (Nat.le_of_ble_eq_true rfl) ?_)
 intro w hI
 refine pu (iv y151.2.2) (by kernel_rfl) (seq_nil (wp_seq (rgn (by kernel_rfl) (bindE hF (fun y156 hy157 hF => ?_)))))
 refine seq_c (s_callv hI 34 [iv 25, iv 8] (.tuple #[iv y156.1, iv y156.2]) (by kernel_rfl) (L34 _ 25 8 _ hy157) ?_)
 intro w hI
 refine pu (.tuple #[iv y156.1, iv y156.2]) (by kernel_rfl) (pu (iv y156.1) (by kernel_rfl) (pu (iv y156.2) (by kernel_rfl) (pu (iv y156.1) (by kernel_rfl) (pu (iv y156.2) (by kernel_rfl) (seq_nil (wp_seq (rgn (by kernel_rfl) (seq_c (s_loadK hI 4 2 [iv y128.1, slv g130 y128.2.length c131] Try.isAgg24 Try.sizeOf24 rfl rfl rfl rfl ?_)))))))))
 refine bindE hF (fun y160 hy161 hF => ?_)
 refine seq_c (s_callv hI 36 [.agg #[iv y128.1, slv g130 y128.2.length c131]] (.tuple #[iv y160.1, iv y160.2]) (by kernel_rfl) (L36 _ y128.1 (g130.map fun b => ⟨b, 0, none⟩) c131 y128.2 (hI.rowCells 5 rfl r133) (len_le rfl r133.big) (len_le rfl r133.cap) N _ hy161) ?_)
 intro w hI
 refine pu (.tuple #[iv y160.1, iv y160.2]) (by kernel_rfl) (pu (iv y160.1) (by kernel_rfl) (pu (iv y160.2) (by kernel_rfl) (pu (iv y160.1) (by kernel_rfl) (pu (iv y160.2) (by kernel_rfl) (seq_nil (wp_seq (rgn (by kernel_rfl) (seq_c (s_loadK hI 4 2 [iv y128.1, slv g130 y128.2.length c131] Try.isAgg24 Try.sizeOf24 rfl rfl rfl rfl ?_)))))))))
 refine bindE hF (fun y168 hy169 hF => ?_)
 refine seq_c (s_call 38 [.agg #[iv y128.1, slv g130 y128.2.length c131]] (by kernel_rfl) (L38 _ y128.1 (g130.map fun b => ⟨b, 0, none⟩) c131 y128.2 (hI.rowCells 5 rfl r133) (len_le rfl r133.big) (len_le rfl r133.cap) N _ hy169) ?_)
 rintro v w ⟨g170, c171, cl172, rfl, hN, r173⟩
 have hI := hI.join hN; clear hN
 refine pu (.tuple #[slv g170 y168.1.length c171, iv y168.2]) (by kernel_rfl) (pu (slv g170 y168.1.length c171) (by kernel_rfl) (pu (iv y168.2) (by kernel_rfl) (pu (slv g170 y168.1.length c171) (by kernel_rfl) (pu (iv y168.2) (by kernel_rfl) (seq_nil (wp_seq (rgn (by kernel_rfl) (seq_c (s_loadK hI 5 2 [iv y128.1, slv g130 y128.2.length c131] Try.isAgg24 Try.sizeOf24 rfl rfl rfl rfl ?_)))))))))
 refine seq_c (s_new hI [iv 2, iv 1, iv 2, iv 1] 3 (fun b => slv (some b) 4 4) (by kernel_rfl) ?_)
 intro b177 w hI
 refine bindE hF (fun y178 hy179 hF => ?_)
 refine seq_c (s_callv hI 44 [.agg #[iv y128.1, slv g130 y128.2.length c131], .slice (some ⟨b177, 0, none⟩) 4 4] (.tuple #[.bool y178.1, iv y178.2]) (by kernel_rfl) (L44 _ y128.1 (g130.map fun b => ⟨b, 0, none⟩) c131 y128.2 (some ⟨b177, 0, none⟩) 4 [2, 1, 2, 1] (hI.rowCells 7 rfl r133) (len_le rfl r133.big) (len_le rfl r133.cap) (hI.cells 0 (off := 0) rfl (fun j u h => by rw [Nat.zero_add]; exact h)) (Nat.le_of_ble_eq_true rfl) (Nat.le_refl _) N _ hy179) ?_)
 intro w hI
 refine pu (.tuple #[.bool y178.1, iv y178.2]) (by kernel_rfl) (pu (.bool y178.1) (by kernel_rfl) (pu (iv y178.2) (by kernel_rfl) (pu (.bool y178.1) (by kernel_rfl) (pu (iv y178.2) (by kernel_rfl) (seq_nil (wp_seq (rgn (by kernel_rfl) (seq_c (s_loadK hI 6 2 [iv y128.1, slv g130 y128.2.length c131] Try.isAgg24 Try.sizeOf24 rfl rfl rfl rfl ?_)))))))))
 refine bindE hF (fun y182 hy183 hF => ?_)
 refine seq_c (s_callv hI 53 [.agg #[iv y128.1, slv g130 y128.2.length c131], iv 9, iv 3] (.tuple #[iv y182.1, iv y182.2]) (by kernel_rfl) (L53 _ y128.1 (g130.map fun b => ⟨b, 0, none⟩) c131 y128.2 9 3 (hI.rowCells 7 rfl r133) (len_le rfl r133.big) (len_le rfl r133.cap) N _ hy183) ?_)
 intro w hI
 refine pu (.tuple #[iv y182.1, iv y182.2]) (by kernel_rfl) (pu (iv y182.1) (by kernel_rfl) (pu (iv y182.2) (by kernel_rfl) (pu (iv y182.1) (by kernel_rfl) (pu (iv y182.2) (by kernel_rfl) (seq_nil (wp_seq (rgn (by kernel_rfl) (seq_c (s_loadK hI 6 2 [iv y128.1, slv g130 y128.2.length c131] Try.isAgg24 Try.sizeOf24 rfl rfl rfl rfl ?_)))))))))
 refine bindE hF (fun y190 hy191 hF => ?_)
 refine seq_c (s_call 55 [.agg #[iv y128.1, slv g130 y128.2.length c131]] (by kernel_rfl) (L55 _ y128.1 (g130.map fun b => ⟨b, 0, none⟩) c131 y128.2 (hI.rowCells 7 rfl r133) (len_le rfl r133.big) (len_le rfl r133.cap) N _ hy191) ?_)
 rintro v w ⟨g192, c193, cl194, rfl, hN, r195⟩
 have hI := hI.join hN; clear hN
 refine pu (.tuple #[slv g192 y190.1.length c193, iv y190.2]) (by kernel_rfl) (pu (slv g192 y190.1.length c193) (by kernel_rfl) (pu (iv y190.2) (by kernel_rfl) (pu (slv g192 y190.1.length c193) (by kernel_rfl) (pu (iv y190.2) (by kernel_rfl) (seq_nil (wp_seq (rgn (by kernel_rfl) (seq_c (s_loadK hI 7 2 [iv y128.1, slv g130 y128.2.length c131] Try.isAgg24 Try.sizeOf24 rfl rfl rfl rfl ?_)))))))))
 refine bindE hF (fun y202 hy203 hF => ?_)
 refine seq_c (s_call 57 [.agg #[iv y128.1, slv g130 y128.2.length c131], iv 2] (by kernel_rfl) (L57 _ y128.1 (g130.map fun b => ⟨b, 0, none⟩) c131 y128.2 2 (hI.rowCells 8 rfl r133) (len_le rfl r133.big) (len_le rfl r133.cap) N _ hy203) ?_)
 rintro v w ⟨g204, c205, cl206, rfl, hN, r207⟩
 have hI := hI.join hN; clear hN
 refine pu (.tuple #[slv g204 y202.1.length c205, iv y202.2]) (by kernel_rfl) (pu (slv g204 y202.1.length c205) (by kernel_rfl) (pu (iv y202.2) (by kernel_rfl) (pu (slv g204 y202.1.length c205) (by kernel_rfl) (pu (iv y202.2) (by kernel_rfl) (seq_nil (wp_cutO (fun ρ w => ∃ (v208 : Bool), Agree ρ [(1, .pointer (some ⟨b134, 0, none⟩)), (3, .pointer (some ⟨b141, 0, none⟩)), (5, .pointer (some ⟨b147, 0, none⟩)), (7, .pointer (some ⟨b153, 0, none⟩)), (9, iv y156.1), (11, iv y160.1), (13, slv g170 y168.1.length c171), (15, .bool y178.1), (17, iv y182.1), (19, slv g192 y190.1.length c193), (21, slv g204 y202.1.length c205), (23, .bool v208)] ∧ Inv [] w0 w [(some b134, blk [iv y128.1, slv g130 y128.2.length c131] 24), (g130, blk cl132 26), (some b141, blk [iv y139.1, iv y139.2.1] 28), (some b147, blk [iv y145.1, iv y145.2.1] 28), (some b153, blk [iv y151.1, iv y151.2.1] 28), (g170, blk cl172 3), (g192, blk cl194 3), (g204, blk cl206 3)] ∧ F25j1 N y128 y139 y145 y151 y156 y160 y168 y178 y182 y190 y202 v208 = some r) ?_ ?_))))))
 ·
  refine rgn (by kernel_rfl) (pu (iv y139.2.2) (by kernel_rfl) (ifE hF (fun h99 hF => ?_) (fun h99 hF => ?_)))
  ·
   refine seq_c (s_eql rfl rfl (fun _ => ?_) (fun h => absurd (a := y139.2.2 = 0) h99 h))
   refine pu (.bool true) (by kernel_rfl) (puo (iv y145.2.2) ⟨(by kernel_rfl), (by kernel_rfl)⟩ (ifE hF (fun h100 hF => ?_) (fun h100 hF => ?_)))
   ·
    refine seq_on (by kernel_rfl) (s_eql rfl rfl (fun _ => ?_) (fun h => absurd (a := y145.2.2 = 0) h100 h))
    refine pu (.bool true) (by kernel_rfl) (pu (.bool true) (by kernel_rfl) (puo (iv y151.2.2) ⟨(by kernel_rfl), (by kernel_rfl)⟩ (ifE hF (fun h101 hF => ?_) (fun h101 hF => ?_))))
    ·
     refine seq_on (by kernel_rfl) (s_eql rfl rfl (fun _ => ?_) (fun h => absurd (a := y151.2.2 = 0) h101 h))
     refine pu (.bool true) (by kernel_rfl) (pu (.bool true) (by kernel_rfl) (puo (iv y156.2) ⟨(by kernel_rfl), (by kernel_rfl)⟩ (ifE hF (fun h102 hF => ?_) (fun h102 hF => ?_))))
     ·
      refine seq_on (by kernel_rfl) (s_eql rfl rfl (fun _ => ?_) (fun h => absurd (a := y156.2 = 0) h102 h))
      refine pu (.bool true) (by kernel_rfl) (pu (.bool true) (by kernel_rfl) (puo (iv y160.2) ⟨(by kernel_rfl), (by kernel_rfl)⟩ (ifE hF (fun h103 hF => ?_) (fun h103 hF => ?_))))
      ·
       refine seq_on (by kernel_rfl) (s_eql rfl rfl (fun _ => ?_) (fun h => absurd (a := y160.2 = 0) h103 h))
       refine pu (.bool true) (by kernel_rfl) (pu (.bool true) (by kernel_rfl) (puo (iv y168.2) ⟨(by kernel_rfl), (by kernel_rfl)⟩ (ifE hF (fun h104 hF => ?_) (fun h104 hF => ?_))))
       ·
        refine seq_on (by kernel_rfl) (s_eql rfl rfl (fun _ => ?_) (fun h => absurd (a := y168.2 = 0) h104 h))
        refine pu (.bool true) (by kernel_rfl) (pu (.bool true) (by kernel_rfl) (puo (iv y178.2) ⟨(by kernel_rfl), (by kernel_rfl)⟩ (ifE hF (fun h105 hF => ?_) (fun h105 hF => ?_))))
        ·
         refine seq_on (by kernel_rfl) (s_eql rfl rfl (fun _ => ?_) (fun h => absurd (a := y178.2 = 0) h105 h))
         refine pu (.bool true) (by kernel_rfl) (pu (.bool true) (by kernel_rfl) (puo (iv y182.2) ⟨(by kernel_rfl), (by kernel_rfl)⟩ (ifE hF (fun h106 hF => ?_) (fun h106 hF => ?_))))
         ·
          refine seq_on (by kernel_rfl) (s_eql rfl rfl (fun _ => ?_) (fun h => absurd (a := y182.2 = 0) h106 h))
          refine pu (.bool true) (by kernel_rfl) (pu (.bool true) (by kernel_rfl) (puo (iv y190.2) ⟨(by kernel_rfl), (by kernel_rfl)⟩ (ifE hF (fun h107 hF => ?_) (fun h107 hF => ?_))))
          ·
           refine seq_on (by kernel_rfl) (s_eql rfl rfl (fun _ => ?_) (fun h => absurd (a := y190.2 = 0) h107 h))
           refine pu (.bool true) (by kernel_rfl) (pu (.bool true) (by kernel_rfl) (puo (iv y202.2) ⟨(by kernel_rfl), (by kernel_rfl)⟩ (ifE hF (fun h108 hF => ?_) (fun h108 hF => ?_))))
           ·
            refine seq_on (by kernel_rfl) (s_eql rfl rfl (fun _ => ?_) (fun h => absurd (a := y202.2 = 0) h108 h))
            refine pu (.bool true) (by kernel_rfl) (pu (.bool true) (by kernel_rfl) (seq_nil ?_))
            exact .inl ⟨rfl, ⟨true, ⟨rfl, rfl, rfl, rfl, rfl, rfl, rfl, rfl, rfl, rfl, rfl, rfl, trivial⟩, hI.pickL [8, 9, 6, 5, 4, 3, 1, 0] (by decide) rfl, hF⟩⟩
           ·
            refine seq_on (by kernel_rfl) (s_eql rfl rfl (fun h => absurd (a := y202.2 = 0) h h108) (fun _ => ?_))
            refine pu (.bool false) (by kernel_rfl) (pu (.bool false) (by kernel_rfl) (seq_nil ?_))
            exact .inl ⟨rfl, ⟨false, ⟨rfl, rfl, rfl, rfl, rfl, rfl, rfl, rfl, rfl, rfl, rfl, rfl, trivial⟩, hI.pickL [8, 9, 6, 5, 4, 3, 1, 0] (by decide) rfl, hF⟩⟩
          ·
           refine seq_on (by kernel_rfl) (s_eql rfl rfl (fun h => absurd (a := y190.2 = 0) h h107) (fun _ => ?_))
           refine pu (.bool false) (by kernel_rfl) (pu (.bool false) (by kernel_rfl) (of_ (by kernel_rfl) (of_ (by kernel_rfl) (pu (.bool false) (by kernel_rfl) (pu (.bool false) (by kernel_rfl) (seq_nil ?_))))))
           exact .inl ⟨rfl, ⟨false, ⟨rfl, rfl, rfl, rfl, rfl, rfl, rfl, rfl, rfl, rfl, rfl, rfl, trivial⟩, hI.pickL [8, 9, 6, 5, 4, 3, 1, 0] (by decide) rfl, hF⟩⟩
         ·
          refine seq_on (by kernel_rfl) (s_eql rfl rfl (fun h => absurd (a := y182.2 = 0) h h106) (fun _ => ?_))
          refine pu (.bool false) (by kernel_rfl) (pu (.bool false) (by kernel_rfl) (of_ (by kernel_rfl) (of_ (by kernel_rfl) (pu (.bool false) (by kernel_rfl) (pu (.bool false) (by kernel_rfl) (of_ (by kernel_rfl) (of_ (by kernel_rfl) (pu (.bool false) (by kernel_rfl) (pu (.bool false) (by kernel_rfl) ?_)))))))))
          refine seq_nil ?_
          exact .inl ⟨rfl, ⟨false, ⟨rfl, rfl, rfl, rfl, rfl, rfl, rfl, rfl, rfl, rfl, rfl, rfl, trivial⟩, hI.pickL [8, 9, 6, 5, 4, 3, 1, 0] (by decide) rfl, hF⟩⟩
        ·
         refine seq_on (by kernel_rfl) (s_eql rfl rfl (fun h => absurd (a := y178.2 = 0) h h105) (fun _ => ?_))
         refine pu (.bool false) (by kernel_rfl) (pu (.bool false) (by kernel_rfl) (of_ (by kernel_rfl) (of_ (by kernel_rfl) (pu (.bool false) (by kernel_rfl) (pu (.bool false) (by kernel_rfl) (of_ (by kernel_rfl) (of_ (by kernel_rfl) (pu (.bool false) (by kernel_rfl) (pu (.bool false) (by kernel_rfl) ?_)))))))))
         refine of_ (by kernel_rfl) (of_ (by kernel_rfl) (pu (.bool false) (by kernel_rfl) (pu (.bool false) (by kernel_rfl) (seq_nil ?_))))
         exact .inl ⟨rfl, ⟨false, ⟨rfl, rfl, rfl, rfl, rfl, rfl, rfl, rfl, rfl, rfl, rfl, rfl, trivial⟩, hI.pickL [8, 9, 6, 5, 4, 3, 1, 0] (by decide) rfl, hF⟩⟩
       ·
        refine seq_on (by kernel_rfl) (s_eql rfl rfl (fun h => absurd (a := y168.2 = 0) h h104) (fun _ => ?_))
        refine pu (.bool false) (by kernel_rfl) (pu (.bool false) (by kernel_rfl) (of_ (by kernel_rfl) (of_ (by kernel_rfl) (pu (.bool false) (by kernel_rfl) (pu (.bool false) (by kernel_rfl) (of_ (by kernel_rfl) (of_ (by kernel_rfl) (pu (.bool false) (by kernel_rfl) (pu (.bool false) (by kernel_rfl) ?_)))))))))
        refine of_ (by kernel_rfl) (of_ (by kernel_rfl) (pu (.bool false) (by kernel_rfl) (pu (.bool false) (by kernel_rfl) (of_ (by kernel_rfl) (of_ (by kernel_rfl) (pu (.bool false) (by kernel_rfl) (pu (.bool false) (by kernel_rfl) (seq_nil ?_))))))))
        exact .inl ⟨rfl, ⟨false, ⟨rfl, rfl, rfl, rfl, rfl, rfl, rfl, rfl, rfl, rfl, rfl, rfl, trivial⟩, hI.pickL [8, 9, 6, 5, 4, 3, 1, 0] (by decide) rfl, hF⟩⟩
      ·
       refine seq_on (by kernel_rfl) (s_eql rfl rfl (fun h => absurd (a := y160.2 = 0) h h103) (fun _ => ?_))
       refine pu (.bool false) (by kernel_rfl) (pu (.bool false) (by kernel_rfl) (of_ (by kernel_rfl) (of_ (by kernel_rfl) (pu (.bool false) (by kernel_rfl) (pu (.bool false) (by kernel_rfl) (of_ (by kernel_rfl) (of_ (by kernel_rfl) (pu (.bool false) (by kernel_rfl) (pu (.bool false) (by kernel_rfl) ?_)))))))))
       refine of_ (by kernel_rfl) (of_ (by kernel_rfl) (pu (.bool false) (by kernel_rfl) (pu (.bool false) (by kernel_rfl) (of_ (by kernel_rfl) (of_ (by kernel_rfl) (pu (.bool false) (by kernel_rfl) (pu (.bool false) (by kernel_rfl) (of_ (by kernel_rfl) (of_ (by kernel_rfl) ?_)))))))))
       refine pu (.bool false) (by kernel_rfl) (pu (.bool false) (by kernel_rfl) (seq_nil ?_))
       exact .inl ⟨rfl, ⟨false, ⟨rfl, rfl, rfl, rfl, rfl, rfl, rfl, rfl, rfl, rfl, rfl, rfl, trivial⟩, hI.pickL [8, 9, 6, 5, 4, 3, 1, 0] (by decide) rfl, hF⟩⟩
     ·
      refine seq_on (by kernel_rfl) (s_eql rfl rfl (fun h => absurd (a := y156.2 = 0) h h102) (fun _ => ?_))
      refine pu (.bool false) (by kernel_rfl) (pu (.bool false) (by kernel_rfl) (of_ (by kernel_rfl) (of_ (by kernel_rfl) (pu (.bool false) (by kernel_rfl) (pu (.bool false) (by kernel_rfl) (of_ (by kernel_rfl) (of_ (by kernel_rfl) (pu (.bool false) (by kernel_rfl) (pu (.bool false) (by kernel_rfl) ?_)))))))))
      refine of_ (by kernel_rfl) (of_ (by kernel_rfl) (pu (.bool false) (by kernel_rfl) (pu (.bool false) (by kernel_rfl) (of_ (by kernel_rfl) (of_ (by kernel_rfl) (pu (.bool false) (by kernel_rfl) (pu (.bool false) (by kernel_rfl) (of_ (by kernel_rfl) (of_ (by kernel_rfl) ?_)))))))))
      refine pu (.bool false) (by kernel_rfl) (pu (.bool false) (by kernel_rfl) (of_ (by kernel_rfl) (of_ (by kernel_rfl) (pu (.bool false) (by kernel_rfl) (pu (.bool false) (by kernel_rfl) (seq_nil ?_))))))
      exact .inl ⟨rfl, ⟨false, ⟨rfl, rfl, rfl, rfl, rfl, rfl, rfl, rfl, rfl, rfl, rfl, rfl, trivial⟩, hI.pickL [8, 9, 6, 5, 4, 3, 1, 0] (by decide) rfl, hF⟩⟩
    ·
     refine seq_on (by kernel_rfl) (s_eql rfl rfl (fun h => absurd (a := y151.2.2 = 0) h h101) (fun _ => ?_))
     refine pu (.bool false) (by kernel_rfl) (pu (.bool false) (by kernel_rfl) (of_ (by kernel_rfl) (of_ (by kernel_rfl) (pu (.bool false) (by kernel_rfl) (pu (.bool false) (by kernel_rfl) (of_ (by kernel_rfl) (of_ (by kernel_rfl) (pu (.bool false) (by kernel_rfl) (pu (.bool false) (by kernel_rfl) ?_)))))))))
     refine of_ (by kernel_rfl) (of_ (by kernel_rfl) (pu (.bool false) (by kernel_rfl) (pu (.bool false) (by kernel_rfl) (of_ (by kernel_rfl) (of_ (by kernel_rfl) (pu (.bool false) (by kernel_rfl) (pu (.bool false) (by kernel_rfl) (of_ (by kernel_rfl) (of_ (by kernel_rfl) ?_)))))))))
     refine pu (.bool false) (by kernel_rfl) (pu (.bool false) (by kernel_rfl) (of_ (by kernel_rfl) (of_ (by kernel_rfl) (pu (.bool false) (by kernel_rfl) (pu (.bool false) (by kernel_rfl) (of_ (by kernel_rfl) (of_ (by kernel_rfl) (pu (.bool false) (by kernel_rfl) (pu (.bool false) (by kernel_rfl) ?_)))))))))
     refine seq_nil ?_
     exact .inl ⟨rfl, ⟨false, ⟨rfl, rfl, rfl, rfl, rfl, rfl, rfl, rfl, rfl, rfl, rfl, rfl, trivial⟩, hI.pickL [8, 9, 6, 5, 4, 3, 1, 0] (by decide) rfl, hF⟩⟩
   ·
    refine seq_on (by kernel_rfl) (s_eql rfl rfl (fun h => absurd (a := y145.2.2 = 0) h h100) (fun _ => ?_))
    refine pu (.bool false) (by kernel_rfl) (pu (.bool false) (by kernel_rfl) (of_ (by kernel_rfl) (of_ (by kernel_rfl) (pu (.bool false) (by kernel_rfl) (pu (.bool false) (by kernel_rfl) (of_ (by kernel_rfl) (of_ (by kernel_rfl) (pu (.bool false) (by kernel_rfl) (pu (.bool false) (by kernel_rfl) ?_)))))))))
    refine of_ (by kernel_rfl) (of_ (by kernel_rfl) (pu (.bool false) (by kernel_rfl) (pu (.bool false) (by kernel_rfl) (of_ (by kernel_rfl) (of_ (by kernel_rfl) (pu (.bool false) (by kernel_rfl) (pu (.bool false) (by kernel_rfl) (of_ (by kernel_rfl) (of_ (by kernel_rfl) ?_)))))))))
    refine pu (.bool false) (by kernel_rfl) (pu (.bool false) (by kernel_rfl) (of_ (by kernel_rfl) (of_ (by kernel_rfl) (pu (.bool false) (by kernel_rfl) (pu (.bool false) (by kernel_rfl) (of_ (by kernel_rfl) (of_ (by kernel_rfl) (pu (.bool false) (by kernel_rfl) (pu (.bool false) (by kernel_rfl) ?_)))))))))
    refine of_ (by kernel_rfl) (of_ (by kernel_rfl) (pu (.bool false) (by kernel_rfl) (pu (.bool false) (by kernel_rfl) (seq_nil ?_))))
    exact .inl ⟨rfl, ⟨false, ⟨rfl, rfl, rfl, rfl, rfl, rfl, rfl, rfl, rfl, rfl, rfl, rfl, trivial⟩, hI.pickL [8, 9, 6, 5, 4, 3, 1, 0] (by decide) rfl, hF⟩⟩
  ·
   refine seq_c (s_eql rfl rfl (fun h => absurd (a := y139.2.2 = 0) h h99) (fun _ => ?_))
   refine pu (.bool false) (by kernel_rfl) (of_ (by kernel_rfl) (of_ (by kernel_rfl) (pu (.bool false) (by kernel_rfl) (pu (.bool false) (by kernel_rfl) (of_ (by kernel_rfl) (of_ (by kernel_rfl) (pu (.bool false) (by kernel_rfl) (pu (.bool false) (by kernel_rfl) (of_ (by kernel_rfl) ?_)))))))))
   refine of_ (by kernel_rfl) (pu (.bool false) (by kernel_rfl) (pu (.bool false) (by kernel_rfl) (of_ (by kernel_rfl) (of_ (by kernel_rfl) (pu (.bool false) (by kernel_rfl) (pu (.bool false) (by kernel_rfl) (of_ (by kernel_rfl) (of_ (by kernel_rfl) (pu (.bool false) (by kernel_rfl) ?_)))))))))
   refine pu (.bool false) (by kernel_rfl) (of_ (by kernel_rfl) (of_ (by kernel_rfl) (pu (.bool false) (by kernel_rfl) (pu (.bool false) (by kernel_rfl) (of_ (by kernel_rfl) (of_ (by kernel_rfl) (pu (.bool false) (by kernel_rfl) (pu (.bool false) (by kernel_rfl) (of_ (by kernel_rfl) ?_)))))))))
   refine of_ (by kernel_rfl) (pu (.bool false) (by kernel_rfl) (pu (.bool false) (by kernel_rfl) (of_ (by kernel_rfl) (of_ (by kernel_rfl) (pu (.bool false) (by kernel_rfl) (pu (.bool false) (by kernel_rfl) (seq_nil ?_)))))))
   exact .inl ⟨rfl, ⟨false, ⟨rfl, rfl, rfl, rfl, rfl, rfl, rfl, rfl, rfl, rfl, rfl, rfl, trivial⟩, hI.pickL [8, 9, 6, 5, 4, 3, 1, 0] (by decide) rfl, hF⟩⟩
 ·intro ρ w hJ
  obtain ⟨v208, hag, hI, hF⟩ := hJ
  obtain ⟨ρ, rfl⟩ := hag.form; clear hag
  unfold F25j1 at hF
  refine wp_cutO (fun ρ w => ∃ (v215 : Bool), Agree ρ [(1, .pointer (some ⟨b134, 0, none⟩)), (17, iv y182.1), (19, slv g192 y190.1.length c193), (21, slv g204 y202.1.length c205), (23, .bool v208), (24, .bool v215)] ∧ Inv [] w0 w [(some b134, blk [iv y128.1, slv g130 y128.2.length c131] 24), (g130, blk cl132 26), (g192, blk cl194 3), (g204, blk cl206 3)] ∧ F25j2 N y128 y182 y190 y202 v208 v215 = some r) ?_ ?_
  ·
   refine ifE hF (fun h86 hF => ?_) (fun h86 hF => ?_)
   ·
    rw [h86]
    refine rgn (by kernel_rfl) (seq_c (s_loadK hI 2 2 [iv y139.1, iv y139.2.1] Try.isAgg28 Try.sizeOf28 rfl rfl rfl rfl ?_))
    refine pu (.agg #[iv 4, iv 21]) (by kernel_rfl) (ifE hF (fun h87 hF => ?_) (fun h87 hF => ?_))
    ·
     refine seq_c (s_eqlA (b := decide (y139.1 = 4) && decide (y139.2.1 = 21)) rfl rfl (by kernel_rfl) (fun w => eq28 _ y139.1 y139.2.1 4 21 w) (fun _ => ?_) (fun h => absurd (a := (decide (y139.1 = 4) && decide (y139.2.1 = 21)) = true) h87 h))
     refine pu (.bool true) (by kernel_rfl) (seq_on (by kernel_rfl) (s_loadK hI 3 2 [iv y145.1, iv y145.2.1] Try.isAgg28 Try.sizeOf28 rfl rfl rfl rfl ?_))
     refine puo (.agg #[iv 15, iv 23]) ⟨(by kernel_rfl), (by kernel_rfl)⟩ (ifE hF (fun h88 hF => ?_) (fun h88 hF => ?_))
     ·
      refine seq_on (by kernel_rfl) (s_eqlA (b := decide (y145.1 = 15) && decide (y145.2.1 = 23)) rfl rfl (by kernel_rfl) (fun w => eq28 _ y145.1 y145.2.1 15 23 w) (fun _ => ?_) (fun h => absurd (a := (decide (y145.1 = 15) && decide (y145.2.1 = 23)) = true) h88 h))
      refine pu (.bool true) (by kernel_rfl) (pu (.bool true) (by kernel_rfl) (seq_on (by kernel_rfl) (s_loadK hI 4 2 [iv y151.1, iv y151.2.1] Try.isAgg28 Try.sizeOf28 rfl rfl rfl rfl ?_)))
      refine puo (.agg #[iv 7, iv 12]) ⟨(by kernel_rfl), (by kernel_rfl)⟩ (ifE hF (fun h89 hF => ?_) (fun h89 hF => ?_))
      ·
       refine seq_on (by kernel_rfl) (s_eqlA (b := decide (y151.1 = 7) && decide (y151.2.1 = 12)) rfl rfl (by kernel_rfl) (fun w => eq28 _ y151.1 y151.2.1 7 12 w) (fun _ => ?_) (fun h => absurd (a := (decide (y151.1 = 7) && decide (y151.2.1 = 12)) = true) h89 h))
       refine pu (.bool true) (by kernel_rfl) (pu (.bool true) (by kernel_rfl) (puo (iv y156.1) ⟨(by kernel_rfl), (by kernel_rfl)⟩ (ifE hF (fun h90 hF => ?_) (fun h90 hF => ?_))))
       ·
        refine seq_on (by kernel_rfl) (s_eql rfl rfl (fun _ => ?_) (fun h => absurd (a := y156.1 = 4) h90 h))
        refine pu (.bool true) (by kernel_rfl) (pu (.bool true) (by kernel_rfl) (puo (iv y160.1) ⟨(by kernel_rfl), (by kernel_rfl)⟩ (ifE hF (fun h91 hF => ?_) (fun h91 hF => ?_))))
        ·
         refine seq_on (by kernel_rfl) (s_eql rfl rfl (fun _ => ?_) (fun h => absurd (a := y160.1 = 1) h91 h))
         refine pu (.bool true) (by kernel_rfl) (pu (.bool true) (by kernel_rfl) (puo (slv g170 y168.1.length c171) ⟨(by kernel_rfl), (by kernel_rfl)⟩ (seq_on (by kernel_rfl) (s_new hI [iv 2, iv 1, iv 1, iv 1] 3 (fun b => slv (some b) 4 4) (by kernel_rfl) ?_))))
         intro b235 w hI
         refine bindE hF (fun y236 hy237 hF => ?_)
         refine ifE hF (fun h92 hF => ?_) (fun h92 hF => ?_)
         ·
          refine seq_on (by kernel_rfl) (s_callv hI 41 [slv g170 y168.1.length c171, .slice (some ⟨b235, 0, none⟩) 4 4] (.bool true) (by kernel_rfl) (Does.mono (L41 _ (g170.map fun b => ⟨b, 0, none⟩) c171 y168.1 (some ⟨b235, 0, none⟩) 4 [2, 1, 1, 1] (hI.rowCells 6 rfl r173) (len_le rfl r173.big) (len_le rfl r173.cap) (hI.cells 0 (off := 0) rfl (fun j u h => by rw [Nat.zero_add]; exact h)) (Nat.le_of_ble_eq_true rfl) (Nat.le_refl _) N _ hy237) (fun v' w' h => ⟨h.1.trans (congrArg Value.bool h92), h.2⟩)) ?_)
          intro w hI
          refine pu (.bool true) (by kernel_rfl) (pu (.bool true) (by kernel_rfl) (puo (.bool true) ⟨(by kernel_rfl), (by kernel_rfl)⟩ (puo (.bool false) ⟨(by kernel_rfl), (by kernel_rfl)⟩ (pu (.bool false) (by kernel_rfl) (pu (.bool false) (by kernel_rfl) (seq_nil ?_))))))
          exact .inl ⟨rfl, ⟨false, ⟨rfl, rfl, rfl, rfl, rfl, rfl, trivial⟩, hI.pickL [1, 2, 7, 8] (by decide) rfl, hF⟩⟩
         ·
          refine seq_on (by kernel_rfl) (s_callv hI 41 [slv g170 y168.1.length c171, .slice (some ⟨b235, 0, none⟩) 4 4] (.bool false) (by kernel_rfl) (Does.mono (L41 _ (g170.map fun b => ⟨b, 0, none⟩) c171 y168.1 (some ⟨b235, 0, none⟩) 4 [2, 1, 1, 1] (hI.rowCells 6 rfl r173) (len_le rfl r173.big) (len_le rfl r173.cap) (hI.cells 0 (off := 0) rfl (fun j u h => by rw [Nat.zero_add]; exact h)) (Nat.le_of_ble_eq_true rfl) (Nat.le_refl _) N _ hy237) (fun v' w' h => ⟨h.1.trans (congrArg Value.bool (Bool.eq_false_iff.2 h92)), h.2⟩)) ?_)
          intro w hI
          refine pu (.bool false) (by kernel_rfl) (pu (.bool false) (by kernel_rfl) (of_ (by kernel_rfl) (of_ (by kernel_rfl) (pu (.bool false) (by kernel_rfl) (pu (.bool false) (by kernel_rfl) (seq_nil ?_))))))
          exact .inl ⟨rfl, ⟨false, ⟨rfl, rfl, rfl, rfl, rfl, rfl, trivial⟩, hI.pickL [1, 2, 7, 8] (by decide) rfl, hF⟩⟩
        ·
         refine seq_on (by kernel_rfl) (s_eql rfl rfl (fun h => absurd (a := y160.1 = 1) h h91) (fun _ => ?_))
         refine pu (.bool false) (by kernel_rfl) (pu (.bool false) (by kernel_rfl) (of_ (by kernel_rfl) (of_ (by kernel_rfl) (of_ (by kernel_rfl) (pu (.bool false) (by kernel_rfl) (pu (.bool false) (by kernel_rfl) (of_ (by kernel_rfl) (of_ (by kernel_rfl) (pu (.bool false) (by kernel_rfl) ?_)))))))))
         refine pu (.bool false) (by kernel_rfl) (seq_nil ?_)
         exact .inl ⟨rfl, ⟨false, ⟨rfl, rfl, rfl, rfl, rfl, rfl, trivial⟩, hI.pickL [0, 1, 6, 7] (by decide) rfl, hF⟩⟩
       ·
        refine seq_on (by kernel_rfl) (s_eql rfl rfl (fun h => absurd (a := y156.1 = 4) h h90) (fun _ => ?_))
        refine pu (.bool false) (by kernel_rfl) (pu (.bool false) (by kernel_rfl) (of_ (by kernel_rfl) (of_ (by kernel_rfl) (pu (.bool false) (by kernel_rfl) (pu (.bool false) (by kernel_rfl) (of_ (by kernel_rfl) (of_ (by kernel_rfl) (of_ (by kernel_rfl) (pu (.bool false) (by kernel_rfl) ?_)))))))))
        refine pu (.bool false) (by kernel_rfl) (of_ (by kernel_rfl) (of_ (by kernel_rfl) (pu (.bool false) (by kernel_rfl) (pu (.bool false) (by kernel_rfl) (seq_nil ?_)))))
        exact .inl ⟨rfl, ⟨false, ⟨rfl, rfl, rfl, rfl, rfl, rfl, trivial⟩, hI.pickL [0, 1, 6, 7] (by decide) rfl, hF⟩⟩
      ·
       refine seq_on (by kernel_rfl) (s_eqlA (b := decide (y151.1 = 7) && decide (y151.2.1 = 12)) rfl rfl (by kernel_rfl) (fun w => eq28 _ y151.1 y151.2.1 7 12 w) (fun h => absurd (a := (decide (y151.1 = 7) && decide (y151.2.1 = 12)) = true) h h89) (fun _ => ?_))
       refine pu (.bool false) (by kernel_rfl) (pu (.bool false) (by kernel_rfl) (of_ (by kernel_rfl) (of_ (by kernel_rfl) (pu (.bool false) (by kernel_rfl) (pu (.bool false) (by kernel_rfl) (of_ (by kernel_rfl) (of_ (by kernel_rfl) (pu (.bool false) (by kernel_rfl) (pu (.bool false) (by kernel_rfl) ?_)))))))))
       refine of_ (by kernel_rfl) (of_ (by kernel_rfl) (of_ (by kernel_rfl) (pu (.bool false) (by kernel_rfl) (pu (.bool false) (by kernel_rfl) (of_ (by kernel_rfl) (of_ (by kernel_rfl) (pu (.bool false) (by kernel_rfl) (pu (.bool false) (by kernel_rfl) (seq_nil ?_)))))))))
       exact .inl ⟨rfl, ⟨false, ⟨rfl, rfl, rfl, rfl, rfl, rfl, trivial⟩, hI.pickL [0, 1, 6, 7] (by decide) rfl, hF⟩⟩
     ·
      refine seq_on (by kernel_rfl) (s_eqlA (b := decide (y145.1 = 15) && decide (y145.2.1 = 23)) rfl rfl (by kernel_rfl) (fun w => eq28 _ y145.1 y145.2.1 15 23 w) (fun h => absurd (a := (decide (y145.1 = 15) && decide (y145.2.1 = 23)) = true) h h88) (fun _ => ?_))
      refine pu (.bool false) (by kernel_rfl) (pu (.bool false) (by kernel_rfl) (of_ (by kernel_rfl) (of_ (by kernel_rfl) (of_ (by kernel_rfl) (pu (.bool false) (by kernel_rfl) (pu (.bool false) (by kernel_rfl) (of_ (by kernel_rfl) (of_ (by kernel_rfl) (pu (.bool false) (by kernel_rfl) ?_)))))))))
      refine pu (.bool false) (by kernel_rfl) (of_ (by kernel_rfl) (of_ (by kernel_rfl) (pu (.bool false) (by kernel_rfl) (pu (.bool false) (by kernel_rfl) (of_ (by kernel_rfl) (of_ (by kernel_rfl) (of_ (by kernel_rfl) (pu (.bool false) (by kernel_rfl) (pu (.bool false) (by kernel_rfl) ?_)))))))))
      refine of_ (by kernel_rfl) (of_ (by kernel_rfl) (pu (.bool false) (by kernel_rfl) (pu (.bool false) (by kernel_rfl) (seq_nil ?_))))
      exact .inl ⟨rfl, ⟨false, ⟨rfl, rfl, rfl, rfl, rfl, rfl, trivial⟩, hI.pickL [0, 1, 6, 7] (by decide) rfl, hF⟩⟩
    ·
     refine seq_c (s_eqlA (b := decide (y139.1 = 4) && decide (y139.2.1 = 21)) rfl rfl (by kernel_rfl) (fun w => eq28 _ y139.1 y139.2.1 4 21 w) (fun h => absurd (a := (decide (y139.1 = 4) && decide (y139.2.1 = 21)) = true) h h87) (fun _ => ?_))
     refine pu (.bool false) (by kernel_rfl) (of_ (by kernel_rfl) (of_ (by kernel_rfl) (of_ (by kernel_rfl) (pu (.bool false) (by kernel_rfl) (pu (.bool false) (by kernel_rfl) (of_ (by kernel_rfl) (of_ (by kernel_rfl) (of_ (by kernel_rfl) (pu (.bool false) (by kernel_rfl) ?_)))))))))
     refine pu (.bool false) (by kernel_rfl) (of_ (by kernel_rfl) (of_ (by kernel_rfl) (pu (.bool false) (by kernel_rfl) (pu (.bool false) (by kernel_rfl) (of_ (by kernel_rfl) (of_ (by kernel_rfl) (pu (.bool false) (by kernel_rfl) (pu (.bool false) (by kernel_rfl) (of_ (by kernel_rfl) ?_)))))))))
     refine of_ (by kernel_rfl) (of_ (by kernel_rfl) (pu (.bool false) (by kernel_rfl) (pu (.bool false) (by kernel_rfl) (of_ (by kernel_rfl) (of_ (by kernel_rfl) (pu (.bool false) (by kernel_rfl) (pu (.bool false) (by kernel_rfl) (seq_nil ?_))))))))
     exact .inl ⟨rfl, ⟨false, ⟨rfl, rfl, rfl, rfl, rfl, rfl, trivial⟩, hI.pickL [0, 1, 6, 7] (by decide) rfl, hF⟩⟩
   ·
    rw [(Bool.eq_false_iff.2 h86)]
    refine rgn (by kernel_rfl) (seq_c (s_loadK hI 2 2 [iv y139.1, iv y139.2.1] Try.isAgg28 Try.sizeOf28 rfl rfl rfl rfl ?_))
    refine pu (.agg #[iv 4, iv 21]) (by kernel_rfl) (ifE hF (fun h93 hF => ?_) (fun h93 hF => ?_))
    ·
     refine seq_c (s_eqlA (b := decide (y139.1 = 4) && decide (y139.2.1 = 21)) rfl rfl (by kernel_rfl) (fun w => eq28 _ y139.1 y139.2.1 4 21 w) (fun _ => ?_) (fun h => absurd (a := (decide (y139.1 = 4) && decide (y139.2.1 = 21)) = true) h93 h))
     refine pu (.bool true) (by kernel_rfl) (seq_on (by kernel_rfl) (s_loadK hI 3 2 [iv y145.1, iv y145.2.1] Try.isAgg28 Try.sizeOf28 rfl rfl rfl rfl ?_))
     refine puo (.agg #[iv 15, iv 23]) ⟨(by kernel_rfl), (by kernel_rfl)⟩ (ifE hF (fun h94 hF => ?_) (fun h94 hF => ?_))
     ·
      refine seq_on (by kernel_rfl) (s_eqlA (b := decide (y145.1 = 15) && decide (y145.2.1 = 23)) rfl rfl (by kernel_rfl) (fun w => eq28 _ y145.1 y145.2.1 15 23 w) (fun _ => ?_) (fun h => absurd (a := (decide (y145.1 = 15) && decide (y145.2.1 = 23)) = true) h94 h))
      refine pu (.bool true) (by kernel_rfl) (pu (.bool true) (by kernel_rfl) (seq_on (by kernel_rfl) (s_loadK hI 4 2 [iv y151.1, iv y151.2.1] Try.isAgg28 Try.sizeOf28 rfl rfl rfl rfl ?_)))
      refine puo (.agg #[iv 7, iv 12]) ⟨(by kernel_rfl), (by kernel_rfl)⟩ (ifE hF (fun h95 hF => ?_) (fun h95 hF => ?_))
      ·
       refine seq_on (by kernel_rfl) (s_eqlA (b := decide (y151.1 = 7) && decide (y151.2.1 = 12)) rfl rfl (by kernel_rfl) (fun w => eq28 _ y151.1 y151.2.1 7 12 w) (fun _ => ?_) (fun h => absurd (a := (decide (y151.1 = 7) && decide (y151.2.1 = 12)) = true) h95 h))
       refine pu (.bool true) (by kernel_rfl) (pu (.bool true) (by kernel_rfl) (puo (iv y156.1) ⟨(by kernel_rfl), (by kernel_rfl)⟩ (ifE hF (fun h96 hF => ?_) (fun h96 hF => ?_))))
       ·
        refine seq_on (by kernel_rfl) (s_eql rfl rfl (fun _ => ?_) (fun h => absurd (a := y156.1 = 4) h96 h))
        refine pu (.bool true) (by kernel_rfl) (pu (.bool true) (by kernel_rfl) (puo (iv y160.1) ⟨(by kernel_rfl), (by kernel_rfl)⟩ (ifE hF (fun h97 hF => ?_) (fun h97 hF => ?_))))
        ·
         refine seq_on (by kernel_rfl) (s_eql rfl rfl (fun _ => ?_) (fun h => absurd (a := y160.1 = 1) h97 h))
         refine pu (.bool true) (by kernel_rfl) (pu (.bool true) (by kernel_rfl) (puo (slv g170 y168.1.length c171) ⟨(by kernel_rfl), (by kernel_rfl)⟩ (seq_on (by kernel_rfl) (s_new hI [iv 2, iv 1, iv 1, iv 1] 3 (fun b => slv (some b) 4 4) (by kernel_rfl) ?_))))
         intro b238 w hI
         refine bindE hF (fun y239 hy240 hF => ?_)
         refine ifE hF (fun h98 hF => ?_) (fun h98 hF => ?_)
         ·
          refine seq_on (by kernel_rfl) (s_callv hI 41 [slv g170 y168.1.length c171, .slice (some ⟨b238, 0, none⟩) 4 4] (.bool true) (by kernel_rfl) (Does.mono (L41 _ (g170.map fun b => ⟨b, 0, none⟩) c171 y168.1 (some ⟨b238, 0, none⟩) 4 [2, 1, 1, 1] (hI.rowCells 6 rfl r173) (len_le rfl r173.big) (len_le rfl r173.cap) (hI.cells 0 (off := 0) rfl (fun j u h => by rw [Nat.zero_add]; exact h)) (Nat.le_of_ble_eq_true rfl) (Nat.le_refl _) N _ hy240) (fun v' w' h => ⟨h.1.trans (congrArg Value.bool h98), h.2⟩)) ?_)
          intro w hI
          refine pu (.bool true) (by kernel_rfl) (pu (.bool true) (by kernel_rfl) (puo (.bool false) ⟨(by kernel_rfl), (by kernel_rfl)⟩ (puo (.bool true) ⟨(by kernel_rfl), (by kernel_rfl)⟩ (pu (.bool true) (by kernel_rfl) (pu (.bool true) (by kernel_rfl) (seq_nil ?_))))))
          exact .inl ⟨rfl, ⟨true, ⟨rfl, rfl, rfl, rfl, rfl, rfl, trivial⟩, hI.pickL [1, 2, 7, 8] (by decide) rfl, hF⟩⟩
         ·
          refine seq_on (by kernel_rfl) (s_callv hI 41 [slv g170 y168.1.length c171, .slice (some ⟨b238, 0, none⟩) 4 4] (.bool false) (by kernel_rfl) (Does.mono (L41 _ (g170.map fun b => ⟨b, 0, none⟩) c171 y168.1 (some ⟨b238, 0, none⟩) 4 [2, 1, 1, 1] (hI.rowCells 6 rfl r173) (len_le rfl r173.big) (len_le rfl r173.cap) (hI.cells 0 (off := 0) rfl (fun j u h => by rw [Nat.zero_add]; exact h)) (Nat.le_of_ble_eq_true rfl) (Nat.le_refl _) N _ hy240) (fun v' w' h => ⟨h.1.trans (congrArg Value.bool (Bool.eq_false_iff.2 h98)), h.2⟩)) ?_)
          intro w hI
          refine pu (.bool false) (by kernel_rfl) (pu (.bool false) (by kernel_rfl) (of_ (by kernel_rfl) (of_ (by kernel_rfl) (pu (.bool false) (by kernel_rfl) (pu (.bool false) (by kernel_rfl) (seq_nil ?_))))))
          exact .inl ⟨rfl, ⟨false, ⟨rfl, rfl, rfl, rfl, rfl, rfl, trivial⟩, hI.pickL [1, 2, 7, 8] (by decide) rfl, hF⟩⟩
        ·
         refine seq_on (by kernel_rfl) (s_eql rfl rfl (fun h => absurd (a := y160.1 = 1) h h97) (fun _ => ?_))
         refine pu (.bool false) (by kernel_rfl) (pu (.bool false) (by kernel_rfl) (of_ (by kernel_rfl) (of_ (by kernel_rfl) (of_ (by kernel_rfl) (pu (.bool false) (by kernel_rfl) (pu (.bool false) (by kernel_rfl) (of_ (by kernel_rfl) (of_ (by kernel_rfl) (pu (.bool false) (by kernel_rfl) ?_)))))))))
         refine pu (.bool false) (by kernel_rfl) (seq_nil ?_)
         exact .inl ⟨rfl, ⟨false, ⟨rfl, rfl, rfl, rfl, rfl, rfl, trivial⟩, hI.pickL [0, 1, 6, 7] (by decide) rfl, hF⟩⟩
       ·
        refine seq_on (by kernel_rfl) (s_eql rfl rfl (fun h => absurd (a := y156.1 = 4) h h96) (fun _ => ?_))
        refine pu (.bool false) (by kernel_rfl) (pu (.bool false) (by kernel_rfl) (of_ (by kernel_rfl) (of_ (by kernel_rfl) (pu (.bool false) (by kernel_rfl) (pu (.bool false) (by kernel_rfl) (of_ (by kernel_rfl) (of_ (by kernel_rfl) (of_ (by kernel_rfl) (pu (.bool false) (by kernel_rfl) ?_)))))))))
        refine pu (.bool false) (by kernel_rfl) (of_ (by kernel_rfl) (of_ (by kernel_rfl) (pu (.bool false) (by kernel_rfl) (pu (.bool false) (by kernel_rfl) (seq_nil ?_)))))
        exact .inl ⟨rfl, ⟨false, ⟨rfl, rfl, rfl, rfl, rfl, rfl, trivial⟩, hI.pickL [0, 1, 6, 7] (by decide) rfl, hF⟩⟩
      ·
       refine seq_on (by kernel_rfl) (s_eqlA (b := decide (y151.1 = 7) && decide (y151.2.1 = 12)) rfl rfl (by kernel_rfl) (fun w => eq28 _ y151.1 y151.2.1 7 12 w) (fun h => absurd (a := (decide (y151.1 = 7) && decide (y151.2.1 = 12)) = true) h h95) (fun _ => ?_))
       refine pu (.bool false) (by kernel_rfl) (pu (.bool false) (by kernel_rfl) (of_ (by kernel_rfl) (of_ (by kernel_rfl) (pu (.bool false) (by kernel_rfl) (pu (.bool false) (by kernel_rfl) (of_ (by kernel_rfl) (of_ (by kernel_rfl) (pu (.bool false) (by kernel_rfl) (pu (.bool false) (by kernel_rfl) ?_)))))))))
       refine of_ (by kernel_rfl) (of_ (by kernel_rfl) (of_ (by kernel_rfl) (pu (.bool false) (by kernel_rfl) (pu (.bool false) (by kernel_rfl) (of_ (by kernel_rfl) (of_ (by kernel_rfl) (pu (.bool false) (by kernel_rfl) (pu (.bool false) (by kernel_rfl) (seq_nil ?_)))))))))
       exact .inl ⟨rfl, ⟨false, ⟨rfl, rfl, rfl, rfl, rfl, rfl, trivial⟩, hI.pickL [0, 1, 6, 7] (by decide) rfl, hF⟩⟩
     ·
      refine seq_on (by kernel_rfl) (s_eqlA (b := decide (y145.1 = 15) && decide (y145.2.1 = 23)) rfl rfl (by kernel_rfl) (fun w => eq28 _ y145.1 y145.2.1 15 23 w) (fun h => absurd (a := (decide (y145.1 = 15) && decide (y145.2.1 = 23)) = true) h h94) (fun _ => ?_))
      refine pu (.bool false) (by kernel_rfl) (pu (.bool false) (by kernel_rfl) (of_ (by kernel_rfl) (of_ (by kernel_rfl) (of_ (by kernel_rfl) (pu (.bool false) (by kernel_rfl) (pu (.bool false) (by kernel_rfl) (of_ (by kernel_rfl) (of_ (by kernel_rfl) (pu (.bool false) (by kernel_rfl) ?_)))))))))
      refine pu (.bool false) (by kernel_rfl) (of_ (by kernel_rfl) (of_ (by kernel_rfl) (pu (.bool false) (by kernel_rfl) (pu (.bool false) (by kernel_rfl) (of_ (by kernel_rfl) (of_ (by kernel_rfl) (of_ (by kernel_rfl) (pu (.bool false) (by kernel_rfl) (pu (.bool false) (by kernel_rfl) ?_)))))))))
      refine of_ (by kernel_rfl) (of_ (by kernel_rfl) (pu (.bool false) (by kernel_rfl) (pu (.bool false) (by kernel_rfl) (seq_nil ?_))))
      exact .inl ⟨rfl, ⟨false, ⟨rfl, rfl, rfl, rfl, rfl, rfl, trivial⟩, hI.pickL [0, 1, 6, 7] (by decide) rfl, hF⟩⟩
    ·
     refine seq_c (s_eqlA (b := decide (y139.1 = 4) && decide (y139.2.1 = 21)) rfl rfl (by kernel_rfl) (fun w => eq28 _ y139.1 y139.2.1 4 21 w) (fun h => absurd (a := (decide (y139.1 = 4) && decide (y139.2.1 = 21)) = true) h h93) (fun _ => ?_))
     refine pu (.bool false) (by kernel_rfl) (of_ (by kernel_rfl) (of_ (by kernel_rfl) (of_ (by kernel_rfl) (pu (.bool false) (by kernel_rfl) (pu (.bool false) (by kernel_rfl) (of_ (by kernel_rfl) (of_ (by kernel_rfl) (of_ (by kernel_rfl) (pu (.bool false) (by kernel_rfl) ?_)))))))))
     refine pu (.bool false) (by kernel_rfl) (of_ (by kernel_rfl) (of_ (by kernel_rfl) (pu (.bool false) (by kernel_rfl) (pu (.bool false) (by kernel_rfl) (of_ (by kernel_rfl) (of_ (by kernel_rfl) (pu (.bool false) (by kernel_rfl) (pu (.bool false) (by kernel_rfl) (of_ (by kernel_rfl) ?_)))))))))
     refine of_ (by kernel_rfl) (of_ (by kernel_rfl) (pu (.bool false) (by kernel_rfl) (pu (.bool false) (by kernel_rfl) (of_ (by kernel_rfl) (of_ (by kernel_rfl) (pu (.bool false) (by kernel_rfl) (pu (.bool false) (by kernel_rfl) (seq_nil ?_))))))))
     exact .inl ⟨rfl, ⟨false, ⟨rfl, rfl, rfl, rfl, rfl, rfl, trivial⟩, hI.pickL [0, 1, 6, 7] (by decide) rfl, hF⟩⟩
  ·intro ρ w hJ
   obtain ⟨v215, hag, hI, hF⟩ := hJ
   obtain ⟨ρ, rfl⟩ := hag.form; clear hag
   unfold F25j2 at hF
   refine wp_seq ?_
   have hG := hF; rcases Bool.eq_false_or_eq_true v208 with rfl | rfl
   ·
    have hF := hG; clear hG
    refine ifE hF (fun _ hF => ?_) (fun h => absurd rfl h)
    have hG := hF; rcases Bool.eq_false_or_eq_true v215 with rfl | rfl
    ·
     have hF := hG; clear hG
     refine ifE hF (fun _ hF => ?_) (fun h => absurd rfl h)
     refine rgn (by kernel_rfl) (pu (.bool true) (by kernel_rfl) (pu (.bool true) (by kernel_rfl) (puo (.bool true) ⟨(by kernel_rfl), (by kernel_rfl)⟩ (pu (.bool true) (by kernel_rfl) (pu (.bool true) (by kernel_rfl) (puo (iv y182.1) ⟨(by kernel_rfl), (by kernel_rfl)⟩ (ifE hF (fun h82 hF => ?_) (fun h82 hF => ?_))))))))
     ·
      refine seq_on (by kernel_rfl) (s_eql rfl rfl (fun _ => ?_) (fun h => absurd (a := y182.1 = 2) h82 h))
      refine pu (.bool true) (by kernel_rfl) (pu (.bool true) (by kernel_rfl) (puo (slv g192 y190.1.length c193) ⟨(by kernel_rfl), (by kernel_rfl)⟩ (seq_on (by kernel_rfl) (s_new hI [iv 5] 3 (fun b => slv (some b) 1 1) (by kernel_rfl) ?_))))
      intro b226 w hI
      refine bindE hF (fun y227 hy228 hF => ?_)
      refine ifE hF (fun h83 hF => ?_) (fun h83 hF => ?_)
      ·
       refine seq_on (by kernel_rfl) (s_callv hI 41 [slv g192 y190.1.length c193, .slice (some ⟨b226, 0, none⟩) 1 1] (.bool true) (by kernel_rfl) (Does.mono (L41 _ (g192.map fun b => ⟨b, 0, none⟩) c193 y190.1 (some ⟨b226, 0, none⟩) 1 [5] (hI.rowCells 3 rfl r195) (len_le rfl r195.big) (len_le rfl r195.cap) (hI.cells 0 (off := 0) rfl (fun j u h => by rw [Nat.zero_add]; exact h)) (Nat.le_of_ble_eq_true rfl) (Nat.le_refl _) N _ hy228) (fun v' w' h => ⟨h.1.trans (congrArg Value.bool h83), h.2⟩)) ?_)
       intro w hI
       refine pu (.bool true) (by kernel_rfl) (pu (.bool true) (by kernel_rfl) (puo (slv g204 y202.1.length c205) ⟨(by kernel_rfl), (by kernel_rfl)⟩ (seq_on (by kernel_rfl) (s_new hI [iv 9] 3 (fun b => slv (some b) 1 1) (by kernel_rfl) ?_))))
       intro b229 w hI
       refine bindE hF (fun y230 hy231 hF => ?_)
       refine ifE hF (fun h84 hF => ?_) (fun h84 hF => ?_)
       ·
        refine seq_on (by kernel_rfl) (s_callv hI 41 [slv g204 y202.1.length c205, .slice (some ⟨b229, 0, none⟩) 1 1] (.bool true) (by kernel_rfl) (Does.mono (L41 _ (g204.map fun b => ⟨b, 0, none⟩) c205 y202.1 (some ⟨b229, 0, none⟩) 1 [9] (hI.rowCells 5 rfl r207) (len_le rfl r207.big) (len_le rfl r207.cap) (hI.cells 0 (off := 0) rfl (fun j u h => by rw [Nat.zero_add]; exact h)) (Nat.le_of_ble_eq_true rfl) (Nat.le_refl _) N _ hy231) (fun v' w' h => ⟨h.1.trans (congrArg Value.bool h84), h.2⟩)) ?_)
        intro w hI
        refine pu (.bool true) (by kernel_rfl) (pu (.bool true) (by kernel_rfl) (seq_on (by kernel_rfl) (s_loadK hI 2 2 [iv y128.1, slv g130 y128.2.length c131] Try.isAgg24 Try.sizeOf24 rfl rfl rfl rfl ?_)))
        refine seq_on (by kernel_rfl) (s_new hI [iv 7, iv 4, iv 9, iv 2, iv 2, iv 0] 3 (fun b => slv (some b) 6 6) (by kernel_rfl) ?_)
        intro b232 w hI
        refine bindE hF (fun y233 hy234 hF => ?_)
        refine seq_on (by kernel_rfl) (s_callv hI 42 [.agg #[iv y128.1, slv g130 y128.2.length c131], .slice (some ⟨b232, 0, none⟩) 6 6] (iv y233) (by kernel_rfl) (L42 _ y128.1 (g130.map fun b => ⟨b, 0, none⟩) c131 y128.2 (some ⟨b232, 0, none⟩) 6 [7, 4, 9, 2, 2, 0] (hI.rowCells 4 rfl r133) (len_le rfl r133.big) (len_le rfl r133.cap) (hI.cells 0 (off := 0) rfl (fun j u h => by rw [Nat.zero_add]; exact h)) (Nat.le_of_ble_eq_true rfl) (Nat.le_refl _) N _ hy234) ?_)
        intro w hI
        refine ifE hF (fun h85 hF => ?_) (fun h85 hF => ?_)
        ·
         refine seq_on (by kernel_rfl) (s_eql rfl rfl (fun _ => ?_) (fun h => absurd (a := y233 = 53) h85 h))
         refine pu (.bool true) (by kernel_rfl) (pu (.bool true) (by kernel_rfl) (seq_nil (wp_ret ?_)))
         replace hF := Option.some.inj hF; subst hF
         exact ⟨.bool true, Ret.r1 rfl rfl, ⟨rfl, hI.below⟩⟩
        ·
         refine seq_on (by kernel_rfl) (s_eql rfl rfl (fun h => absurd (a := y233 = 53) h h85) (fun _ => ?_))
         refine pu (.bool false) (by kernel_rfl) (pu (.bool false) (by kernel_rfl) (seq_nil (wp_ret ?_)))
         replace hF := Option.some.inj hF; subst hF
         exact ⟨.bool false, Ret.r1 rfl rfl, ⟨rfl, hI.below⟩⟩
       ·
        refine seq_on (by kernel_rfl) (s_callv hI 41 [slv g204 y202.1.length c205, .slice (some ⟨b229, 0, none⟩) 1 1] (.bool false) (by kernel_rfl) (Does.mono (L41 _ (g204.map fun b => ⟨b, 0, none⟩) c205 y202.1 (some ⟨b229, 0, none⟩) 1 [9] (hI.rowCells 5 rfl r207) (len_le rfl r207.big) (len_le rfl r207.cap) (hI.cells 0 (off := 0) rfl (fun j u h => by rw [Nat.zero_add]; exact h)) (Nat.le_of_ble_eq_true rfl) (Nat.le_refl _) N _ hy231) (fun v' w' h => ⟨h.1.trans (congrArg Value.bool (Bool.eq_false_iff.2 h84)), h.2⟩)) ?_)
        intro w hI
        refine pu (.bool false) (by kernel_rfl) (pu (.bool false) (by kernel_rfl) (of_ (by kernel_rfl) (of_ (by kernel_rfl) (of_ (by kernel_rfl) (of_ (by kernel_rfl) (pu (.bool false) (by kernel_rfl) (pu (.bool false) (by kernel_rfl) (seq_nil (wp_ret ?_)))))))))
        replace hF := Option.some.inj hF; subst hF
        exact ⟨.bool false, Ret.r1 rfl rfl, ⟨rfl, hI.below⟩⟩
      ·
       refine seq_on (by kernel_rfl) (s_callv hI 41 [slv g192 y190.1.length c193, .slice (some ⟨b226, 0, none⟩) 1 1] (.bool false) (by kernel_rfl) (Does.mono (L41 _ (g192.map fun b => ⟨b, 0, none⟩) c193 y190.1 (some ⟨b226, 0, none⟩) 1 [5] (hI.rowCells 3 rfl r195) (len_le rfl r195.big) (len_le rfl r195.cap) (hI.cells 0 (off := 0) rfl (fun j u h => by rw [Nat.zero_add]; exact h)) (Nat.le_of_ble_eq_true rfl) (Nat.le_refl _) N _ hy228) (fun v' w' h => ⟨h.1.trans (congrArg Value.bool (Bool.eq_false_iff.2 h83)), h.2⟩)) ?_)
       intro w hI
       refine pu (.bool false) (by kernel_rfl) (pu (.bool false) (by kernel_rfl) (of_ (by kernel_rfl) (of_ (by kernel_rfl) (of_ (by kernel_rfl) (pu (.bool false) (by kernel_rfl) (pu (.bool false) (by kernel_rfl) (of_ (by kernel_rfl) (of_ (by kernel_rfl) (of_ (by kernel_rfl) ?_)))))))))
       refine of_ (by kernel_rfl) (pu (.bool false) (by kernel_rfl) (pu (.bool false) (by kernel_rfl) (seq_nil (wp_ret ?_))))
       replace hF := Option.some.inj hF; subst hF
       exact ⟨.bool false, Ret.r1 rfl rfl, ⟨rfl, hI.below⟩⟩
     ·
      refine seq_on (by kernel_rfl) (s_eql rfl rfl (fun h => absurd (a := y182.1 = 2) h h82) (fun _ => ?_))
      refine pu (.bool false) (by kernel_rfl) (pu (.bool false) (by kernel_rfl) (of_ (by kernel_rfl) (of_ (by kernel_rfl) (of_ (by kernel_rfl) (pu (.bool false) (by kernel_rfl) (pu (.bool false) (by kernel_rfl) (of_ (by kernel_rfl) (of_ (by kernel_rfl) (of_ (by kernel_rfl) ?_)))))))))
      refine pu (.bool false) (by kernel_rfl) (pu (.bool false) (by kernel_rfl) (of_ (by kernel_rfl) (of_ (by kernel_rfl) (of_ (by kernel_rfl) (of_ (by kernel_rfl) (pu (.bool false) (by kernel_rfl) (pu (.bool false) (by kernel_rfl) (seq_nil (wp_ret ?_)))))))))
      replace hF := Option.some.inj hF; subst hF
      exact ⟨.bool false, Ret.r1 rfl rfl, ⟨rfl, hI.below⟩⟩
    ·
     have hF := hG; clear hG
     refine ifE hF (fun h => absurd h (by decide)) (fun _ hF => ?_)
     refine rgn (by kernel_rfl) (pu (.bool true) (by kernel_rfl) (pu (.bool true) (by kernel_rfl) (puo (.bool false) ⟨(by kernel_rfl), (by kernel_rfl)⟩ (pu (.bool false) (by kernel_rfl) (pu (.bool false) (by kernel_rfl) (of_ (by kernel_rfl) (of_ (by kernel_rfl) (pu (.bool false) (by kernel_rfl) (pu (.bool false) (by kernel_rfl) ?_)))))))))
     refine of_ (by kernel_rfl) (of_ (by kernel_rfl) (of_ (by kernel_rfl) (pu (.bool false) (by kernel_rfl) (pu (.bool false) (by kernel_rfl) (of_ (by kernel_rfl) (of_ (by kernel_rfl) (of_ (by kernel_rfl) (pu (.bool false) (by kernel_rfl) (pu (.bool false) (by kernel_rfl) ?_)))))))))
     refine of_ (by kernel_rfl) (of_ (by kernel_rfl) (of_ (by kernel_rfl) (of_ (by kernel_rfl) (pu (.bool false) (by kernel_rfl) (pu (.bool false) (by kernel_rfl) (seq_nil (wp_ret ?_)))))))
     replace hF := Option.some.inj hF; subst hF
     exact ⟨.bool false, Ret.r1 rfl rfl, ⟨rfl, hI.below⟩⟩
   ·
    have hF := hG; clear hG
    refine ifE hF (fun h => absurd h (by decide)) (fun _ hF => ?_)
    have hG := hF; rcases Bool.eq_false_or_eq_true v215 with rfl | rfl
    ·
     have hF := hG; clear hG
     refine ifE hF (fun _ hF => ?_) (fun h => absurd rfl h)
     refine rgn (by kernel_rfl) (pu (.bool false) (by kernel_rfl) (pu (.bool false) (by kernel_rfl) (of_ (by kernel_rfl) (pu (.bool false) (by kernel_rfl) (pu (.bool false) (by kernel_rfl) (of_ (by kernel_rfl) (of_ (by kernel_rfl) (pu (.bool false) (by kernel_rfl) (pu (.bool false) (by kernel_rfl) ?_)))))))))
     refine of_ (by kernel_rfl) (of_ (by kernel_rfl) (of_ (by kernel_rfl) (pu (.bool false) (by kernel_rfl) (pu (.bool false) (by kernel_rfl) (of_ (by kernel_rfl) (of_ (by kernel_rfl) (of_ (by kernel_rfl) (pu (.bool false) (by kernel_rfl) (pu (.bool false) (by kernel_rfl) ?_)))))))))
     refine of_ (by kernel_rfl) (of_ (by kernel_rfl) (of_ (by kernel_rfl) (of_ (by kernel_rfl) (pu (.bool false) (by kernel_rfl) (pu (.bool false) (by kernel_rfl) (seq_nil (wp_ret ?_)))))))
     replace hF := Option.some.inj hF; subst hF
     exact ⟨.bool false, Ret.r1 rfl rfl, ⟨rfl, hI.below⟩⟩
    ·
     have hF := hG; clear hG
     refine ifE hF (fun h => absurd h (by decide)) (fun _ hF => ?_)
     refine rgn (by kernel_rfl) (pu (.bool false) (by kernel_rfl) (pu (.bool false) (by kernel_rfl) (of_ (by kernel_rfl) (pu (.bool false) (by kernel_rfl) (pu (.bool false) (by kernel_rfl) (of_ (by kernel_rfl) (of_ (by kernel_rfl) (pu (.bool false) (by kernel_rfl) (pu (.bool false) (by kernel_rfl) ?_)))))))))
     refine of_ (by kernel_rfl) (of_ (by kernel_rfl) (of_ (by kernel_rfl) (pu (.bool false) (by kernel_rfl) (pu (.bool false) (by kernel_rfl) (of_ (by kernel_rfl) (of_ (by kernel_rfl) (of_ (by kernel_rfl) (pu (.bool false) (by kernel_rfl) (pu (.bool false) (by kernel_rfl) ?_)))))))))
     refine of_ (by kernel_rfl) (of_ (by kernel_rfl) (of_ (by kernel_rfl) (of_ (by kernel_rfl) (pu (.bool false) (by kernel_rfl) (pu (.bool false) (by kernel_rfl) (seq_nil (wp_ret ?_)))))))
     replace hF := Option.some.inj hF; subst hF
     exact ⟨.bool false, Ret.r1 rfl rfl, ⟨rfl, hI.below⟩⟩


theorem L3 (w0 : World) (p0_0 : Int) (Ap0_1 : Option Addr) (cp0_1 : Nat) (lp0_1 : List Cm) (p1 : Cm) (p2 : Yl) (hCp0_1 : Cells w0 Ap0_1 (flat eCm lp0_1)) (hMp0_1 : lp0_1.length ≤ 9223372036854775807) (hKp0_1 : lp0_1.length ≤ cp0_1) (N : Nat) (r : Bool) (hF : F3 N p0_0 lp0_1 p1 p2 = some r) : Does Try.prog 3 [.agg #[.int .i64 p0_0, .slice Ap0_1 lp0_1.length cp0_1], .agg #[.int .i64 p1.fam, .int .i64 p1.hrs, .int .i64 p1.wants], .agg #[.int .i64 p2.lo, .int .i64 p2.hi, .int .i64 p2.toll]] w0 fun v w => v = .bool r ∧ Below w0.heap.size w0 w := by
 refine calls_of (n := 83) Try.func3 rfl Try.ntmps3 rfl ?_
 have hI := Inv.start w0
 unfold F3 at hF
 refine wp_seq (rgn (by kernel_rfl) (seq_c (s_boxI hI [iv p0_0, .slice Ap0_1 lp0_1.length cp0_1] rfl ?_)))
 intro b97 w hI
 refine seq_c (s_boxI hI [iv p1.fam, iv p1.hrs, iv p1.wants] rfl ?_)
 intro b98 w hI
 refine seq_c (s_boxI hI [iv p2.lo, iv p2.hi, iv p2.toll] rfl ?_)
 intro b99 w hI
 refine pu (.bool false) (by kernel_rfl) (seq_nil (wp_seq (rgn (by kernel_rfl) (seq_c (s_loadK hI 2 2 [iv p0_0, .slice Ap0_1 lp0_1.length cp0_1] Try.isAgg24 Try.sizeOf24 rfl rfl rfl rfl ?_)))))
 refine seq_c (s_loadK hI 1 3 [iv p1.fam, iv p1.hrs, iv p1.wants] Try.isAgg26 Try.sizeOf26 rfl rfl rfl rfl ?_)
 refine bindE hF (fun y107 hy108 hF => ?_)
 refine seq_c (s_call 14 [.agg #[iv p0_0, .slice Ap0_1 lp0_1.length cp0_1], .agg #[iv p1.fam, iv p1.hrs, iv p1.wants]] (by kernel_rfl) (L14 _ p0_0 Ap0_1 cp0_1 lp0_1 p1 (hCp0_1.inv0 hI) hMp0_1 hKp0_1 N _ hy108) ?_)
 rintro v w ⟨g109, c110, cl111, rfl, hN, r112⟩
 have hI := hI.join hN; clear hN
 refine pu (.tuple #[.agg #[iv y107.1, slv g109 y107.2.1.length c110], iv y107.2.2]) (by kernel_rfl) (pu (.agg #[iv y107.1, slv g109 y107.2.1.length c110]) (by kernel_rfl) (pu (iv y107.2.2) (by kernel_rfl) (seq_c (s_allocI hI [iv 0, .slice none 0 0] Try.zeroValue24 rfl ?_))))
 intro b113 w hI
 refine seq_c (s_store hI 0 2 [iv y107.1, slv g109 y107.2.1.length c110] Try.sizeOf24 rfl rfl rfl rfl rfl (Nat.le_of_ble_eq_true rfl) ?_)
 intro w hI
 refine pu (iv y107.2.2) (by kernel_rfl) (seq_nil (wp_seq (rgn (by kernel_rfl) (seq_c (s_loadK hI 4 2 [iv p0_0, .slice Ap0_1 lp0_1.length cp0_1] Try.isAgg24 Try.sizeOf24 rfl rfl rfl rfl ?_)))))
 refine seq_c (s_loadK hI 3 3 [iv p1.fam, iv p1.hrs, iv p1.wants] Try.isAgg26 Try.sizeOf26 rfl rfl rfl rfl ?_)
 refine bindE hF (fun y121 hy122 hF => ?_)
 refine seq_c (s_call 15 [.agg #[iv p0_0, .slice Ap0_1 lp0_1.length cp0_1], .agg #[iv p1.fam, iv p1.hrs, iv p1.wants]] (by kernel_rfl) (L15 _ p0_0 Ap0_1 cp0_1 lp0_1 p1 (hCp0_1.inv0 hI) hMp0_1 hKp0_1 N _ hy122) ?_)
 rintro v w ⟨g123, c124, cl125, rfl, hN, r126⟩
 have hI := hI.join hN; clear hN
 refine pu (.tuple #[.agg #[iv y121.1, slv g123 y121.2.1.length c124], iv y121.2.2]) (by kernel_rfl) (pu (.agg #[iv y121.1, slv g123 y121.2.1.length c124]) (by kernel_rfl) (pu (iv y121.2.2) (by kernel_rfl) (seq_c (s_allocI hI [iv 0, .slice none 0 0] Try.zeroValue24 rfl ?_))))
 intro b127 w hI
 refine seq_c (s_store hI 0 2 [iv y121.1, slv g123 y121.2.1.length c124] Try.sizeOf24 rfl rfl rfl rfl rfl (Nat.le_of_ble_eq_true rfl) ?_)
 intro w hI
 refine pu (iv y121.2.2) (by kernel_rfl) (seq_nil (wp_seq (rgn (by kernel_rfl) (seq_c (s_loadK hI 6 2 [iv p0_0, .slice Ap0_1 lp0_1.length cp0_1] Try.isAgg24 Try.sizeOf24 rfl rfl rfl rfl ?_)))))
 refine pu (.pointer (some ⟨b98, 0, none⟩)) (by kernel_rfl) (seq_c (s_load1 hI 5 (iv p1.fam) Try.isAgg3 rfl rfl rfl ?_))
 refine bindE hF (fun y135 hy136 hF => ?_)
 refine seq_c (s_call 16 [.agg #[iv p0_0, .slice Ap0_1 lp0_1.length cp0_1], iv p1.fam] (by kernel_rfl) (L16 _ p0_0 Ap0_1 cp0_1 lp0_1 p1.fam (hCp0_1.inv0 hI) hMp0_1 hKp0_1 N _ hy136) ?_)
 rintro v w ⟨g137, c138, cl139, rfl, hN, r140⟩
 have hI := hI.join hN; clear hN
 refine pu (.tuple #[.agg #[iv y135.1, slv g137 y135.2.1.length c138], iv y135.2.2]) (by kernel_rfl) (pu (.agg #[iv y135.1, slv g137 y135.2.1.length c138]) (by kernel_rfl) (pu (iv y135.2.2) (by kernel_rfl) (seq_c (s_allocI hI [iv 0, .slice none 0 0] Try.zeroValue24 rfl ?_))))
 intro b141 w hI
 refine seq_c (s_store hI 0 2 [iv y135.1, slv g137 y135.2.1.length c138] Try.sizeOf24 rfl rfl rfl rfl rfl (Nat.le_of_ble_eq_true rfl) ?_)
 intro w hI
 refine pu (iv y135.2.2) (by kernel_rfl) (seq_nil (wp_seq (rgn (by kernel_rfl) (seq_c (s_loadK hI 8 2 [iv p0_0, .slice Ap0_1 lp0_1.length cp0_1] Try.isAgg24 Try.sizeOf24 rfl rfl rfl rfl ?_)))))
 refine pu (.pointer (some ⟨b98, 0, none⟩)) (by kernel_rfl) (seq_c (s_load1 hI 7 (iv p1.fam) Try.isAgg3 rfl rfl rfl ?_))
 refine bindE hF (fun y149 hy150 hF => ?_)
 refine seq_c (s_call 17 [.agg #[iv p0_0, .slice Ap0_1 lp0_1.length cp0_1], iv p1.fam] (by kernel_rfl) (L17 _ p0_0 Ap0_1 cp0_1 lp0_1 p1.fam (hCp0_1.inv0 hI) hMp0_1 hKp0_1 N _ hy150) ?_)
 rintro v w ⟨g151, c152, cl153, rfl, hN, r154⟩
 have hI := hI.join hN; clear hN
 refine pu (.tuple #[.agg #[iv y149.1, slv g151 y149.2.1.length c152], iv y149.2.2]) (by kernel_rfl) (pu (.agg #[iv y149.1, slv g151 y149.2.1.length c152]) (by kernel_rfl) (pu (iv y149.2.2) (by kernel_rfl) (seq_c (s_allocI hI [iv 0, .slice none 0 0] Try.zeroValue24 rfl ?_))))
 intro b155 w hI
 refine seq_c (s_store hI 0 2 [iv y149.1, slv g151 y149.2.1.length c152] Try.sizeOf24 rfl rfl rfl rfl rfl (Nat.le_of_ble_eq_true rfl) ?_)
 intro w hI
 refine pu (iv y149.2.2) (by kernel_rfl) (seq_nil (wp_seq (bindE hF (fun y175 hy176 hF => ?_))))
 refine ifE hF (fun h22 hF => ?_) (fun h22 hF => ?_)
 ·
  refine ifE hF (fun h23 hF => ?_) (fun h23 hF => ?_)
  ·
   refine bindE hF (fun y177 hy178 hF => ?_)
   refine ifE hF (fun h24 hF => ?_) (fun h24 hF => ?_)
   ·
    refine ifE hF (fun h25 hF => ?_) (fun h25 hF => ?_)
    ·
     refine bindE hF (fun y179 hy180 hF => ?_)
     refine bindE hF (fun y181 hy182 hF => ?_)
     refine ifE hF (fun h26 hF => ?_) (fun h26 hF => ?_)
     ·
      refine bindE hF (fun y183 hy184 hF => ?_)
      refine bindE hF (fun y185 hy186 hF => ?_)
      refine ifE hF (fun h27 hF => ?_) (fun h27 hF => ?_)
      ·
       refine bindE hF (fun y187 hy188 hF => ?_)
       refine bindE hF (fun y189 hy190 hF => ?_)
       refine ifE hF (fun h28 hF => ?_) (fun h28 hF => ?_)
       ·
        refine bindE hF (fun y191 hy192 hF => ?_)
        refine wp_drawn2 hI [0, 1, 2, 3, 4, 5, 6, 7, 8, 9, 10] (by decide) rfl (by kernel_rfl) (by kernel_rfl) ?_
        intro hsub
        refine al_light 0 (.agg #[iv y107.1, slv g109 y107.2.1.length c110]) hsub rfl (by kernel_rfl) (fun w hI => s_loadK hI 6 2 [iv y107.1, slv g109 y107.2.1.length c110] Try.isAgg24 Try.sizeOf24 rfl rfl rfl rfl ⟨rfl, Below.refl _ _⟩) ?_
        refine al_light 1 (.agg #[iv y121.1, slv g123 y121.2.1.length c124]) hsub rfl (by kernel_rfl) (fun w hI => s_loadK hI 4 2 [iv y121.1, slv g123 y121.2.1.length c124] Try.isAgg24 Try.sizeOf24 rfl rfl rfl rfl ⟨rfl, Below.refl _ _⟩) ?_
        refine al_light 2 (.bool true) hsub rfl (by kernel_rfl) (fun w hI => s_call 18 [.agg #[iv y107.1, slv g109 y107.2.1.length c110], .agg #[iv y121.1, slv g123 y121.2.1.length c124]] (by kernel_rfl) (Does.mono (L18 _ y107.1 (g109.map fun b => ⟨b, 0, none⟩) c110 y107.2.1 y121.1 (g123.map fun b => ⟨b, 0, none⟩) c124 y121.2.1 (hI.rowCells 7 rfl r112) (len_le rfl r112.big) (len_le rfl r112.cap) (hI.rowCells 5 rfl r126) (len_le rfl r126.big) (len_le rfl r126.cap) N _ hy176) (fun v' w' h => ⟨h.1.trans (congrArg Value.bool h22), h.2⟩)) (fun v' w' h => h)) ?_
        refine alp 3 (.bool true) hsub rfl (by kernel_rfl) (fun _ => (by kernel_rfl)) ?_
        refine al_on 4 (iv y107.2.2) hsub rfl (by kernel_rfl) (by kernel_rfl) (fun w hI => s_pure (iv y107.2.2) (by kernel_rfl) ⟨rfl, Below.refl _ _⟩) ?_
        refine al_on 5 (iv y121.2.2) hsub rfl (by kernel_rfl) (by kernel_rfl) (fun w hI => s_pure (iv y121.2.2) (by kernel_rfl) ⟨rfl, Below.refl _ _⟩) ?_
        refine al_on 6 (.bool true) hsub rfl (by kernel_rfl) (by kernel_rfl) (fun w hI => s_eql rfl rfl (fun _ => ⟨rfl, Below.refl _ _⟩) (fun h => absurd (a := y107.2.2 = y121.2.2) h23 h)) ?_
        refine alp 7 (.bool true) hsub rfl (by kernel_rfl) (fun _ => (by kernel_rfl)) ?_
        refine alp 8 (.bool true) hsub rfl (by kernel_rfl) (fun _ => (by kernel_rfl)) ?_
        refine al_on 9 (.agg #[iv y135.1, slv g137 y135.2.1.length c138]) hsub rfl (by kernel_rfl) (by kernel_rfl) (fun w hI => s_loadK hI 2 2 [iv y135.1, slv g137 y135.2.1.length c138] Try.isAgg24 Try.sizeOf24 rfl rfl rfl rfl ⟨rfl, Below.refl _ _⟩) ?_
        refine al_on 10 (.agg #[iv y149.1, slv g151 y149.2.1.length c152]) hsub rfl (by kernel_rfl) (by kernel_rfl) (fun w hI => s_loadK hI 0 2 [iv y149.1, slv g151 y149.2.1.length c152] Try.isAgg24 Try.sizeOf24 rfl rfl rfl rfl ⟨rfl, Below.refl _ _⟩) ?_
        refine al_on 11 (.bool true) hsub rfl (by kernel_rfl) (by kernel_rfl) (fun w hI => s_call 18 [.agg #[iv y135.1, slv g137 y135.2.1.length c138], .agg #[iv y149.1, slv g151 y149.2.1.length c152]] (by kernel_rfl) (Does.mono (L18 _ y135.1 (g137.map fun b => ⟨b, 0, none⟩) c138 y135.2.1 y149.1 (g151.map fun b => ⟨b, 0, none⟩) c152 y149.2.1 (hI.rowCells 3 rfl r140) (len_le rfl r140.big) (len_le rfl r140.cap) (hI.rowCells 1 rfl r154) (len_le rfl r154.big) (len_le rfl r154.cap) N _ hy178) (fun v' w' h => ⟨h.1.trans (congrArg Value.bool h24), h.2⟩)) (fun v' w' h => h)) ?_
        refine alp 12 (.bool true) hsub rfl (by kernel_rfl) (fun _ => (by kernel_rfl)) ?_
        refine alp 13 (.bool true) hsub rfl (by kernel_rfl) (fun _ => (by kernel_rfl)) ?_
        refine al_on 14 (iv y135.2.2) hsub rfl (by kernel_rfl) (by kernel_rfl) (fun w hI => s_pure (iv y135.2.2) (by kernel_rfl) ⟨rfl, Below.refl _ _⟩) ?_
        refine al_on 15 (iv y149.2.2) hsub rfl (by kernel_rfl) (by kernel_rfl) (fun w hI => s_pure (iv y149.2.2) (by kernel_rfl) ⟨rfl, Below.refl _ _⟩) ?_
        refine al_on 16 (.bool true) hsub rfl (by kernel_rfl) (by kernel_rfl) (fun w hI => s_eql rfl rfl (fun _ => ⟨rfl, Below.refl _ _⟩) (fun h => absurd (a := y135.2.2 = y149.2.2) h25 h)) ?_
        refine alp 17 (.bool true) hsub rfl (by kernel_rfl) (fun _ => (by kernel_rfl)) ?_
        refine alp 18 (.bool true) hsub rfl (by kernel_rfl) (fun _ => (by kernel_rfl)) ?_
        refine al_on 19 (.agg #[iv p2.lo, iv p2.hi, iv p2.toll]) hsub rfl (by kernel_rfl) (by kernel_rfl) (fun w hI => s_loadK hI 8 3 [iv p2.lo, iv p2.hi, iv p2.toll] Try.isAgg30 Try.sizeOf30 rfl rfl rfl rfl ⟨rfl, Below.refl _ _⟩) ?_
        refine al_on 20 (iv y179) hsub rfl (by kernel_rfl) (by kernel_rfl) (fun w hI => s_call 19 [.agg #[iv p2.lo, iv p2.hi, iv p2.toll]] (by kernel_rfl) (L19 _ p2 _ hy180) (fun v' w' h => h)) ?_
        refine al_on 21 (.agg #[iv p2.lo, iv p2.hi, iv p2.toll]) hsub rfl (by kernel_rfl) (by kernel_rfl) (fun w hI => s_loadK hI 8 3 [iv p2.lo, iv p2.hi, iv p2.toll] Try.isAgg30 Try.sizeOf30 rfl rfl rfl rfl ⟨rfl, Below.refl _ _⟩) ?_
        refine al_on 22 (iv y181) hsub rfl (by kernel_rfl) (by kernel_rfl) (fun w hI => s_call 20 [.agg #[iv p2.lo, iv p2.hi, iv p2.toll]] (by kernel_rfl) (L20 _ p2 _ hy182) (fun v' w' h => h)) ?_
        refine al_on 23 (.bool true) hsub rfl (by kernel_rfl) (by kernel_rfl) (fun w hI => s_eql rfl rfl (fun _ => ⟨rfl, Below.refl _ _⟩) (fun h => absurd (a := y179 = y181) h26 h)) ?_
        refine alp 24 (.bool true) hsub rfl (by kernel_rfl) (fun _ => (by kernel_rfl)) ?_
        refine alp 25 (.bool true) hsub rfl (by kernel_rfl) (fun _ => (by kernel_rfl)) ?_
        refine al_on 26 (.agg #[iv p1.fam, iv p1.hrs, iv p1.wants]) hsub rfl (by kernel_rfl) (by kernel_rfl) (fun w hI => s_loadK hI 9 3 [iv p1.fam, iv p1.hrs, iv p1.wants] Try.isAgg26 Try.sizeOf26 rfl rfl rfl rfl ⟨rfl, Below.refl _ _⟩) ?_
        refine al_on 27 (iv y183) hsub rfl (by kernel_rfl) (by kernel_rfl) (fun w hI => s_call 21 [.agg #[iv p1.fam, iv p1.hrs, iv p1.wants]] (by kernel_rfl) (L21 _ p1 _ hy184) (fun v' w' h => h)) ?_
        refine al_on 28 (.agg #[iv p1.fam, iv p1.hrs, iv p1.wants]) hsub rfl (by kernel_rfl) (by kernel_rfl) (fun w hI => s_loadK hI 9 3 [iv p1.fam, iv p1.hrs, iv p1.wants] Try.isAgg26 Try.sizeOf26 rfl rfl rfl rfl ⟨rfl, Below.refl _ _⟩) ?_
        refine al_on 29 (iv y185) hsub rfl (by kernel_rfl) (by kernel_rfl) (fun w hI => s_call 22 [.agg #[iv p1.fam, iv p1.hrs, iv p1.wants]] (by kernel_rfl) (L22 _ p1 _ hy186) (fun v' w' h => h)) ?_
        refine al_on 30 (.bool true) hsub rfl (by kernel_rfl) (by kernel_rfl) (fun w hI => s_eql rfl rfl (fun _ => ⟨rfl, Below.refl _ _⟩) (fun h => absurd (a := y183 = y185) h27 h)) ?_
        refine alp 31 (.bool true) hsub rfl (by kernel_rfl) (fun _ => (by kernel_rfl)) ?_
        refine alp 32 (.bool true) hsub rfl (by kernel_rfl) (fun _ => (by kernel_rfl)) ?_
        refine al_on 33 (.agg #[iv p0_0, .slice Ap0_1 lp0_1.length cp0_1]) hsub rfl (by kernel_rfl) (by kernel_rfl) (fun w hI => s_loadK hI 10 2 [iv p0_0, .slice Ap0_1 lp0_1.length cp0_1] Try.isAgg24 Try.sizeOf24 rfl rfl rfl rfl ⟨rfl, Below.refl _ _⟩) ?_
        refine al_on 34 (iv y187) hsub rfl (by kernel_rfl) (by kernel_rfl) (fun w hI => s_call 23 [.agg #[iv p0_0, .slice Ap0_1 lp0_1.length cp0_1]] (by kernel_rfl) (L23 _ p0_0 Ap0_1 cp0_1 lp0_1 (hCp0_1.inv0 hI) hMp0_1 hKp0_1 N _ hy188) (fun v' w' h => h)) ?_
        refine al_on 35 (.agg #[iv p0_0, .slice Ap0_1 lp0_1.length cp0_1]) hsub rfl (by kernel_rfl) (by kernel_rfl) (fun w hI => s_loadK hI 10 2 [iv p0_0, .slice Ap0_1 lp0_1.length cp0_1] Try.isAgg24 Try.sizeOf24 rfl rfl rfl rfl ⟨rfl, Below.refl _ _⟩) ?_
        refine al_on 36 (iv y189) hsub rfl (by kernel_rfl) (by kernel_rfl) (fun w hI => s_call 24 [.agg #[iv p0_0, .slice Ap0_1 lp0_1.length cp0_1]] (by kernel_rfl) (L24 _ p0_0 Ap0_1 cp0_1 lp0_1 (hCp0_1.inv0 hI) hMp0_1 hKp0_1 N _ hy190) (fun v' w' h => h)) ?_
        refine al_on 37 (.bool true) hsub rfl (by kernel_rfl) (by kernel_rfl) (fun w hI => s_eql rfl rfl (fun _ => ⟨rfl, Below.refl _ _⟩) (fun h => absurd (a := y187 = y189) h28 h)) ?_
        refine alp 38 (.bool true) hsub rfl (by kernel_rfl) (fun _ => (by kernel_rfl)) ?_
        refine alp 39 (.bool true) hsub rfl (by kernel_rfl) (fun _ => (by kernel_rfl)) ?_
        refine al_on 40 (.bool y191) hsub rfl (by kernel_rfl) (by kernel_rfl) (fun w hI => s_call 25 [] (by kernel_rfl) (L25 _ N _ hy192) (fun v' w' h => h)) ?_
        refine alp 41 (.bool y191) hsub rfl (by kernel_rfl) (fun _ => (by kernel_rfl)) ?_
        refine alp 42 (.bool y191) hsub rfl (by kernel_rfl) (fun _ => (by kernel_rfl)) ?_
        refine any_end (by kernel_rfl) (fun w hI => ?_)
        refine wp_ret ?_
        replace hF := Option.some.inj hF; subst hF
        exact ⟨.bool y191, Ret.r1 rfl rfl, ⟨rfl, hI.below⟩⟩
       ·
        refine wp_drawn2 hI [0, 1, 2, 3, 4, 5, 6, 7, 8, 9, 10] (by decide) rfl (by kernel_rfl) (by kernel_rfl) ?_
        intro hsub
        refine al_light 0 (.agg #[iv y107.1, slv g109 y107.2.1.length c110]) hsub rfl (by kernel_rfl) (fun w hI => s_loadK hI 6 2 [iv y107.1, slv g109 y107.2.1.length c110] Try.isAgg24 Try.sizeOf24 rfl rfl rfl rfl ⟨rfl, Below.refl _ _⟩) ?_
        refine al_light 1 (.agg #[iv y121.1, slv g123 y121.2.1.length c124]) hsub rfl (by kernel_rfl) (fun w hI => s_loadK hI 4 2 [iv y121.1, slv g123 y121.2.1.length c124] Try.isAgg24 Try.sizeOf24 rfl rfl rfl rfl ⟨rfl, Below.refl _ _⟩) ?_
        refine al_light 2 (.bool true) hsub rfl (by kernel_rfl) (fun w hI => s_call 18 [.agg #[iv y107.1, slv g109 y107.2.1.length c110], .agg #[iv y121.1, slv g123 y121.2.1.length c124]] (by kernel_rfl) (Does.mono (L18 _ y107.1 (g109.map fun b => ⟨b, 0, none⟩) c110 y107.2.1 y121.1 (g123.map fun b => ⟨b, 0, none⟩) c124 y121.2.1 (hI.rowCells 7 rfl r112) (len_le rfl r112.big) (len_le rfl r112.cap) (hI.rowCells 5 rfl r126) (len_le rfl r126.big) (len_le rfl r126.cap) N _ hy176) (fun v' w' h => ⟨h.1.trans (congrArg Value.bool h22), h.2⟩)) (fun v' w' h => h)) ?_
        refine alp 3 (.bool true) hsub rfl (by kernel_rfl) (fun _ => (by kernel_rfl)) ?_
        refine al_on 4 (iv y107.2.2) hsub rfl (by kernel_rfl) (by kernel_rfl) (fun w hI => s_pure (iv y107.2.2) (by kernel_rfl) ⟨rfl, Below.refl _ _⟩) ?_
        refine al_on 5 (iv y121.2.2) hsub rfl (by kernel_rfl) (by kernel_rfl) (fun w hI => s_pure (iv y121.2.2) (by kernel_rfl) ⟨rfl, Below.refl _ _⟩) ?_
        refine al_on 6 (.bool true) hsub rfl (by kernel_rfl) (by kernel_rfl) (fun w hI => s_eql rfl rfl (fun _ => ⟨rfl, Below.refl _ _⟩) (fun h => absurd (a := y107.2.2 = y121.2.2) h23 h)) ?_
        refine alp 7 (.bool true) hsub rfl (by kernel_rfl) (fun _ => (by kernel_rfl)) ?_
        refine alp 8 (.bool true) hsub rfl (by kernel_rfl) (fun _ => (by kernel_rfl)) ?_
        refine al_on 9 (.agg #[iv y135.1, slv g137 y135.2.1.length c138]) hsub rfl (by kernel_rfl) (by kernel_rfl) (fun w hI => s_loadK hI 2 2 [iv y135.1, slv g137 y135.2.1.length c138] Try.isAgg24 Try.sizeOf24 rfl rfl rfl rfl ⟨rfl, Below.refl _ _⟩) ?_
        refine al_on 10 (.agg #[iv y149.1, slv g151 y149.2.1.length c152]) hsub rfl (by kernel_rfl) (by kernel_rfl) (fun w hI => s_loadK hI 0 2 [iv y149.1, slv g151 y149.2.1.length c152] Try.isAgg24 Try.sizeOf24 rfl rfl rfl rfl ⟨rfl, Below.refl _ _⟩) ?_
        refine al_on 11 (.bool true) hsub rfl (by kernel_rfl) (by kernel_rfl) (fun w hI => s_call 18 [.agg #[iv y135.1, slv g137 y135.2.1.length c138], .agg #[iv y149.1, slv g151 y149.2.1.length c152]] (by kernel_rfl) (Does.mono (L18 _ y135.1 (g137.map fun b => ⟨b, 0, none⟩) c138 y135.2.1 y149.1 (g151.map fun b => ⟨b, 0, none⟩) c152 y149.2.1 (hI.rowCells 3 rfl r140) (len_le rfl r140.big) (len_le rfl r140.cap) (hI.rowCells 1 rfl r154) (len_le rfl r154.big) (len_le rfl r154.cap) N _ hy178) (fun v' w' h => ⟨h.1.trans (congrArg Value.bool h24), h.2⟩)) (fun v' w' h => h)) ?_
        refine alp 12 (.bool true) hsub rfl (by kernel_rfl) (fun _ => (by kernel_rfl)) ?_
        refine alp 13 (.bool true) hsub rfl (by kernel_rfl) (fun _ => (by kernel_rfl)) ?_
        refine al_on 14 (iv y135.2.2) hsub rfl (by kernel_rfl) (by kernel_rfl) (fun w hI => s_pure (iv y135.2.2) (by kernel_rfl) ⟨rfl, Below.refl _ _⟩) ?_
        refine al_on 15 (iv y149.2.2) hsub rfl (by kernel_rfl) (by kernel_rfl) (fun w hI => s_pure (iv y149.2.2) (by kernel_rfl) ⟨rfl, Below.refl _ _⟩) ?_
        refine al_on 16 (.bool true) hsub rfl (by kernel_rfl) (by kernel_rfl) (fun w hI => s_eql rfl rfl (fun _ => ⟨rfl, Below.refl _ _⟩) (fun h => absurd (a := y135.2.2 = y149.2.2) h25 h)) ?_
        refine alp 17 (.bool true) hsub rfl (by kernel_rfl) (fun _ => (by kernel_rfl)) ?_
        refine alp 18 (.bool true) hsub rfl (by kernel_rfl) (fun _ => (by kernel_rfl)) ?_
        refine al_on 19 (.agg #[iv p2.lo, iv p2.hi, iv p2.toll]) hsub rfl (by kernel_rfl) (by kernel_rfl) (fun w hI => s_loadK hI 8 3 [iv p2.lo, iv p2.hi, iv p2.toll] Try.isAgg30 Try.sizeOf30 rfl rfl rfl rfl ⟨rfl, Below.refl _ _⟩) ?_
        refine al_on 20 (iv y179) hsub rfl (by kernel_rfl) (by kernel_rfl) (fun w hI => s_call 19 [.agg #[iv p2.lo, iv p2.hi, iv p2.toll]] (by kernel_rfl) (L19 _ p2 _ hy180) (fun v' w' h => h)) ?_
        refine al_on 21 (.agg #[iv p2.lo, iv p2.hi, iv p2.toll]) hsub rfl (by kernel_rfl) (by kernel_rfl) (fun w hI => s_loadK hI 8 3 [iv p2.lo, iv p2.hi, iv p2.toll] Try.isAgg30 Try.sizeOf30 rfl rfl rfl rfl ⟨rfl, Below.refl _ _⟩) ?_
        refine al_on 22 (iv y181) hsub rfl (by kernel_rfl) (by kernel_rfl) (fun w hI => s_call 20 [.agg #[iv p2.lo, iv p2.hi, iv p2.toll]] (by kernel_rfl) (L20 _ p2 _ hy182) (fun v' w' h => h)) ?_
        refine al_on 23 (.bool true) hsub rfl (by kernel_rfl) (by kernel_rfl) (fun w hI => s_eql rfl rfl (fun _ => ⟨rfl, Below.refl _ _⟩) (fun h => absurd (a := y179 = y181) h26 h)) ?_
        refine alp 24 (.bool true) hsub rfl (by kernel_rfl) (fun _ => (by kernel_rfl)) ?_
        refine alp 25 (.bool true) hsub rfl (by kernel_rfl) (fun _ => (by kernel_rfl)) ?_
        refine al_on 26 (.agg #[iv p1.fam, iv p1.hrs, iv p1.wants]) hsub rfl (by kernel_rfl) (by kernel_rfl) (fun w hI => s_loadK hI 9 3 [iv p1.fam, iv p1.hrs, iv p1.wants] Try.isAgg26 Try.sizeOf26 rfl rfl rfl rfl ⟨rfl, Below.refl _ _⟩) ?_
        refine al_on 27 (iv y183) hsub rfl (by kernel_rfl) (by kernel_rfl) (fun w hI => s_call 21 [.agg #[iv p1.fam, iv p1.hrs, iv p1.wants]] (by kernel_rfl) (L21 _ p1 _ hy184) (fun v' w' h => h)) ?_
        refine al_on 28 (.agg #[iv p1.fam, iv p1.hrs, iv p1.wants]) hsub rfl (by kernel_rfl) (by kernel_rfl) (fun w hI => s_loadK hI 9 3 [iv p1.fam, iv p1.hrs, iv p1.wants] Try.isAgg26 Try.sizeOf26 rfl rfl rfl rfl ⟨rfl, Below.refl _ _⟩) ?_
        refine al_on 29 (iv y185) hsub rfl (by kernel_rfl) (by kernel_rfl) (fun w hI => s_call 22 [.agg #[iv p1.fam, iv p1.hrs, iv p1.wants]] (by kernel_rfl) (L22 _ p1 _ hy186) (fun v' w' h => h)) ?_
        refine al_on 30 (.bool true) hsub rfl (by kernel_rfl) (by kernel_rfl) (fun w hI => s_eql rfl rfl (fun _ => ⟨rfl, Below.refl _ _⟩) (fun h => absurd (a := y183 = y185) h27 h)) ?_
        refine alp 31 (.bool true) hsub rfl (by kernel_rfl) (fun _ => (by kernel_rfl)) ?_
        refine alp 32 (.bool true) hsub rfl (by kernel_rfl) (fun _ => (by kernel_rfl)) ?_
        refine al_on 33 (.agg #[iv p0_0, .slice Ap0_1 lp0_1.length cp0_1]) hsub rfl (by kernel_rfl) (by kernel_rfl) (fun w hI => s_loadK hI 10 2 [iv p0_0, .slice Ap0_1 lp0_1.length cp0_1] Try.isAgg24 Try.sizeOf24 rfl rfl rfl rfl ⟨rfl, Below.refl _ _⟩) ?_
        refine al_on 34 (iv y187) hsub rfl (by kernel_rfl) (by kernel_rfl) (fun w hI => s_call 23 [.agg #[iv p0_0, .slice Ap0_1 lp0_1.length cp0_1]] (by kernel_rfl) (L23 _ p0_0 Ap0_1 cp0_1 lp0_1 (hCp0_1.inv0 hI) hMp0_1 hKp0_1 N _ hy188) (fun v' w' h => h)) ?_
        refine al_on 35 (.agg #[iv p0_0, .slice Ap0_1 lp0_1.length cp0_1]) hsub rfl (by kernel_rfl) (by kernel_rfl) (fun w hI => s_loadK hI 10 2 [iv p0_0, .slice Ap0_1 lp0_1.length cp0_1] Try.isAgg24 Try.sizeOf24 rfl rfl rfl rfl ⟨rfl, Below.refl _ _⟩) ?_
        refine al_on 36 (iv y189) hsub rfl (by kernel_rfl) (by kernel_rfl) (fun w hI => s_call 24 [.agg #[iv p0_0, .slice Ap0_1 lp0_1.length cp0_1]] (by kernel_rfl) (L24 _ p0_0 Ap0_1 cp0_1 lp0_1 (hCp0_1.inv0 hI) hMp0_1 hKp0_1 N _ hy190) (fun v' w' h => h)) ?_
        refine al_on 37 (.bool false) hsub rfl (by kernel_rfl) (by kernel_rfl) (fun w hI => s_eql rfl rfl (fun h => absurd (a := y187 = y189) h h28) (fun _ => ⟨rfl, Below.refl _ _⟩)) ?_
        refine alp 38 (.bool false) hsub rfl (by kernel_rfl) (fun _ => (by kernel_rfl)) ?_
        refine alp 39 (.bool false) hsub rfl (by kernel_rfl) (fun _ => (by kernel_rfl)) ?_
        refine al_off 40 hsub rfl (by kernel_rfl) (by kernel_rfl) ?_
        refine alp 41 (.bool false) hsub rfl (by kernel_rfl) (fun _ => (by kernel_rfl)) ?_
        refine alp 42 (.bool false) hsub rfl (by kernel_rfl) (fun _ => (by kernel_rfl)) ?_
        refine any_end (by kernel_rfl) (fun w hI => ?_)
        refine wp_ret ?_
        replace hF := Option.some.inj hF; subst hF
        exact ⟨.bool false, Ret.r1 rfl rfl, ⟨rfl, hI.below⟩⟩
      ·
       refine wp_drawn2 hI [0, 1, 2, 3, 4, 5, 6, 7, 8, 9, 10] (by decide) rfl (by kernel_rfl) (by kernel_rfl) ?_
       intro hsub
       refine al_light 0 (.agg #[iv y107.1, slv g109 y107.2.1.length c110]) hsub rfl (by kernel_rfl) (fun w hI => s_loadK hI 6 2 [iv y107.1, slv g109 y107.2.1.length c110] Try.isAgg24 Try.sizeOf24 rfl rfl rfl rfl ⟨rfl, Below.refl _ _⟩) ?_
       refine al_light 1 (.agg #[iv y121.1, slv g123 y121.2.1.length c124]) hsub rfl (by kernel_rfl) (fun w hI => s_loadK hI 4 2 [iv y121.1, slv g123 y121.2.1.length c124] Try.isAgg24 Try.sizeOf24 rfl rfl rfl rfl ⟨rfl, Below.refl _ _⟩) ?_
       refine al_light 2 (.bool true) hsub rfl (by kernel_rfl) (fun w hI => s_call 18 [.agg #[iv y107.1, slv g109 y107.2.1.length c110], .agg #[iv y121.1, slv g123 y121.2.1.length c124]] (by kernel_rfl) (Does.mono (L18 _ y107.1 (g109.map fun b => ⟨b, 0, none⟩) c110 y107.2.1 y121.1 (g123.map fun b => ⟨b, 0, none⟩) c124 y121.2.1 (hI.rowCells 7 rfl r112) (len_le rfl r112.big) (len_le rfl r112.cap) (hI.rowCells 5 rfl r126) (len_le rfl r126.big) (len_le rfl r126.cap) N _ hy176) (fun v' w' h => ⟨h.1.trans (congrArg Value.bool h22), h.2⟩)) (fun v' w' h => h)) ?_
       refine alp 3 (.bool true) hsub rfl (by kernel_rfl) (fun _ => (by kernel_rfl)) ?_
       refine al_on 4 (iv y107.2.2) hsub rfl (by kernel_rfl) (by kernel_rfl) (fun w hI => s_pure (iv y107.2.2) (by kernel_rfl) ⟨rfl, Below.refl _ _⟩) ?_
       refine al_on 5 (iv y121.2.2) hsub rfl (by kernel_rfl) (by kernel_rfl) (fun w hI => s_pure (iv y121.2.2) (by kernel_rfl) ⟨rfl, Below.refl _ _⟩) ?_
       refine al_on 6 (.bool true) hsub rfl (by kernel_rfl) (by kernel_rfl) (fun w hI => s_eql rfl rfl (fun _ => ⟨rfl, Below.refl _ _⟩) (fun h => absurd (a := y107.2.2 = y121.2.2) h23 h)) ?_
       refine alp 7 (.bool true) hsub rfl (by kernel_rfl) (fun _ => (by kernel_rfl)) ?_
       refine alp 8 (.bool true) hsub rfl (by kernel_rfl) (fun _ => (by kernel_rfl)) ?_
       refine al_on 9 (.agg #[iv y135.1, slv g137 y135.2.1.length c138]) hsub rfl (by kernel_rfl) (by kernel_rfl) (fun w hI => s_loadK hI 2 2 [iv y135.1, slv g137 y135.2.1.length c138] Try.isAgg24 Try.sizeOf24 rfl rfl rfl rfl ⟨rfl, Below.refl _ _⟩) ?_
       refine al_on 10 (.agg #[iv y149.1, slv g151 y149.2.1.length c152]) hsub rfl (by kernel_rfl) (by kernel_rfl) (fun w hI => s_loadK hI 0 2 [iv y149.1, slv g151 y149.2.1.length c152] Try.isAgg24 Try.sizeOf24 rfl rfl rfl rfl ⟨rfl, Below.refl _ _⟩) ?_
       refine al_on 11 (.bool true) hsub rfl (by kernel_rfl) (by kernel_rfl) (fun w hI => s_call 18 [.agg #[iv y135.1, slv g137 y135.2.1.length c138], .agg #[iv y149.1, slv g151 y149.2.1.length c152]] (by kernel_rfl) (Does.mono (L18 _ y135.1 (g137.map fun b => ⟨b, 0, none⟩) c138 y135.2.1 y149.1 (g151.map fun b => ⟨b, 0, none⟩) c152 y149.2.1 (hI.rowCells 3 rfl r140) (len_le rfl r140.big) (len_le rfl r140.cap) (hI.rowCells 1 rfl r154) (len_le rfl r154.big) (len_le rfl r154.cap) N _ hy178) (fun v' w' h => ⟨h.1.trans (congrArg Value.bool h24), h.2⟩)) (fun v' w' h => h)) ?_
       refine alp 12 (.bool true) hsub rfl (by kernel_rfl) (fun _ => (by kernel_rfl)) ?_
       refine alp 13 (.bool true) hsub rfl (by kernel_rfl) (fun _ => (by kernel_rfl)) ?_
       refine al_on 14 (iv y135.2.2) hsub rfl (by kernel_rfl) (by kernel_rfl) (fun w hI => s_pure (iv y135.2.2) (by kernel_rfl) ⟨rfl, Below.refl _ _⟩) ?_
       refine al_on 15 (iv y149.2.2) hsub rfl (by kernel_rfl) (by kernel_rfl) (fun w hI => s_pure (iv y149.2.2) (by kernel_rfl) ⟨rfl, Below.refl _ _⟩) ?_
       refine al_on 16 (.bool true) hsub rfl (by kernel_rfl) (by kernel_rfl) (fun w hI => s_eql rfl rfl (fun _ => ⟨rfl, Below.refl _ _⟩) (fun h => absurd (a := y135.2.2 = y149.2.2) h25 h)) ?_
       refine alp 17 (.bool true) hsub rfl (by kernel_rfl) (fun _ => (by kernel_rfl)) ?_
       refine alp 18 (.bool true) hsub rfl (by kernel_rfl) (fun _ => (by kernel_rfl)) ?_
       refine al_on 19 (.agg #[iv p2.lo, iv p2.hi, iv p2.toll]) hsub rfl (by kernel_rfl) (by kernel_rfl) (fun w hI => s_loadK hI 8 3 [iv p2.lo, iv p2.hi, iv p2.toll] Try.isAgg30 Try.sizeOf30 rfl rfl rfl rfl ⟨rfl, Below.refl _ _⟩) ?_
       refine al_on 20 (iv y179) hsub rfl (by kernel_rfl) (by kernel_rfl) (fun w hI => s_call 19 [.agg #[iv p2.lo, iv p2.hi, iv p2.toll]] (by kernel_rfl) (L19 _ p2 _ hy180) (fun v' w' h => h)) ?_
       refine al_on 21 (.agg #[iv p2.lo, iv p2.hi, iv p2.toll]) hsub rfl (by kernel_rfl) (by kernel_rfl) (fun w hI => s_loadK hI 8 3 [iv p2.lo, iv p2.hi, iv p2.toll] Try.isAgg30 Try.sizeOf30 rfl rfl rfl rfl ⟨rfl, Below.refl _ _⟩) ?_
       refine al_on 22 (iv y181) hsub rfl (by kernel_rfl) (by kernel_rfl) (fun w hI => s_call 20 [.agg #[iv p2.lo, iv p2.hi, iv p2.toll]] (by kernel_rfl) (L20 _ p2 _ hy182) (fun v' w' h => h)) ?_
       refine al_on 23 (.bool true) hsub rfl (by kernel_rfl) (by kernel_rfl) (fun w hI => s_eql rfl rfl (fun _ => ⟨rfl, Below.refl _ _⟩) (fun h => absurd (a := y179 = y181) h26 h)) ?_
       refine alp 24 (.bool true) hsub rfl (by kernel_rfl) (fun _ => (by kernel_rfl)) ?_
       refine alp 25 (.bool true) hsub rfl (by kernel_rfl) (fun _ => (by kernel_rfl)) ?_
       refine al_on 26 (.agg #[iv p1.fam, iv p1.hrs, iv p1.wants]) hsub rfl (by kernel_rfl) (by kernel_rfl) (fun w hI => s_loadK hI 9 3 [iv p1.fam, iv p1.hrs, iv p1.wants] Try.isAgg26 Try.sizeOf26 rfl rfl rfl rfl ⟨rfl, Below.refl _ _⟩) ?_
       refine al_on 27 (iv y183) hsub rfl (by kernel_rfl) (by kernel_rfl) (fun w hI => s_call 21 [.agg #[iv p1.fam, iv p1.hrs, iv p1.wants]] (by kernel_rfl) (L21 _ p1 _ hy184) (fun v' w' h => h)) ?_
       refine al_on 28 (.agg #[iv p1.fam, iv p1.hrs, iv p1.wants]) hsub rfl (by kernel_rfl) (by kernel_rfl) (fun w hI => s_loadK hI 9 3 [iv p1.fam, iv p1.hrs, iv p1.wants] Try.isAgg26 Try.sizeOf26 rfl rfl rfl rfl ⟨rfl, Below.refl _ _⟩) ?_
       refine al_on 29 (iv y185) hsub rfl (by kernel_rfl) (by kernel_rfl) (fun w hI => s_call 22 [.agg #[iv p1.fam, iv p1.hrs, iv p1.wants]] (by kernel_rfl) (L22 _ p1 _ hy186) (fun v' w' h => h)) ?_
       refine al_on 30 (.bool false) hsub rfl (by kernel_rfl) (by kernel_rfl) (fun w hI => s_eql rfl rfl (fun h => absurd (a := y183 = y185) h h27) (fun _ => ⟨rfl, Below.refl _ _⟩)) ?_
       refine alp 31 (.bool false) hsub rfl (by kernel_rfl) (fun _ => (by kernel_rfl)) ?_
       refine alp 32 (.bool false) hsub rfl (by kernel_rfl) (fun _ => (by kernel_rfl)) ?_
       refine al_off 33 hsub rfl (by kernel_rfl) (by kernel_rfl) ?_
       refine al_off 34 hsub rfl (by kernel_rfl) (by kernel_rfl) ?_
       refine al_off 35 hsub rfl (by kernel_rfl) (by kernel_rfl) ?_
       refine al_off 36 hsub rfl (by kernel_rfl) (by kernel_rfl) ?_
       refine al_off 37 hsub rfl (by kernel_rfl) (by kernel_rfl) ?_
       refine alp 38 (.bool false) hsub rfl (by kernel_rfl) (fun _ => (by kernel_rfl)) ?_
       refine alp 39 (.bool false) hsub rfl (by kernel_rfl) (fun _ => (by kernel_rfl)) ?_
       refine al_off 40 hsub rfl (by kernel_rfl) (by kernel_rfl) ?_
       refine alp 41 (.bool false) hsub rfl (by kernel_rfl) (fun _ => (by kernel_rfl)) ?_
       refine alp 42 (.bool false) hsub rfl (by kernel_rfl) (fun _ => (by kernel_rfl)) ?_
       refine any_end (by kernel_rfl) (fun w hI => ?_)
       refine wp_ret ?_
       replace hF := Option.some.inj hF; subst hF
       exact ⟨.bool false, Ret.r1 rfl rfl, ⟨rfl, hI.below⟩⟩
     ·
      refine wp_drawn2 hI [0, 1, 2, 3, 4, 5, 6, 7, 8, 9, 10] (by decide) rfl (by kernel_rfl) (by kernel_rfl) ?_
      intro hsub
      refine al_light 0 (.agg #[iv y107.1, slv g109 y107.2.1.length c110]) hsub rfl (by kernel_rfl) (fun w hI => s_loadK hI 6 2 [iv y107.1, slv g109 y107.2.1.length c110] Try.isAgg24 Try.sizeOf24 rfl rfl rfl rfl ⟨rfl, Below.refl _ _⟩) ?_
      refine al_light 1 (.agg #[iv y121.1, slv g123 y121.2.1.length c124]) hsub rfl (by kernel_rfl) (fun w hI => s_loadK hI 4 2 [iv y121.1, slv g123 y121.2.1.length c124] Try.isAgg24 Try.sizeOf24 rfl rfl rfl rfl ⟨rfl, Below.refl _ _⟩) ?_
      refine al_light 2 (.bool true) hsub rfl (by kernel_rfl) (fun w hI => s_call 18 [.agg #[iv y107.1, slv g109 y107.2.1.length c110], .agg #[iv y121.1, slv g123 y121.2.1.length c124]] (by kernel_rfl) (Does.mono (L18 _ y107.1 (g109.map fun b => ⟨b, 0, none⟩) c110 y107.2.1 y121.1 (g123.map fun b => ⟨b, 0, none⟩) c124 y121.2.1 (hI.rowCells 7 rfl r112) (len_le rfl r112.big) (len_le rfl r112.cap) (hI.rowCells 5 rfl r126) (len_le rfl r126.big) (len_le rfl r126.cap) N _ hy176) (fun v' w' h => ⟨h.1.trans (congrArg Value.bool h22), h.2⟩)) (fun v' w' h => h)) ?_
      refine alp 3 (.bool true) hsub rfl (by kernel_rfl) (fun _ => (by kernel_rfl)) ?_
      refine al_on 4 (iv y107.2.2) hsub rfl (by kernel_rfl) (by kernel_rfl) (fun w hI => s_pure (iv y107.2.2) (by kernel_rfl) ⟨rfl, Below.refl _ _⟩) ?_
      refine al_on 5 (iv y121.2.2) hsub rfl (by kernel_rfl) (by kernel_rfl) (fun w hI => s_pure (iv y121.2.2) (by kernel_rfl) ⟨rfl, Below.refl _ _⟩) ?_
      refine al_on 6 (.bool true) hsub rfl (by kernel_rfl) (by kernel_rfl) (fun w hI => s_eql rfl rfl (fun _ => ⟨rfl, Below.refl _ _⟩) (fun h => absurd (a := y107.2.2 = y121.2.2) h23 h)) ?_
      refine alp 7 (.bool true) hsub rfl (by kernel_rfl) (fun _ => (by kernel_rfl)) ?_
      refine alp 8 (.bool true) hsub rfl (by kernel_rfl) (fun _ => (by kernel_rfl)) ?_
      refine al_on 9 (.agg #[iv y135.1, slv g137 y135.2.1.length c138]) hsub rfl (by kernel_rfl) (by kernel_rfl) (fun w hI => s_loadK hI 2 2 [iv y135.1, slv g137 y135.2.1.length c138] Try.isAgg24 Try.sizeOf24 rfl rfl rfl rfl ⟨rfl, Below.refl _ _⟩) ?_
      refine al_on 10 (.agg #[iv y149.1, slv g151 y149.2.1.length c152]) hsub rfl (by kernel_rfl) (by kernel_rfl) (fun w hI => s_loadK hI 0 2 [iv y149.1, slv g151 y149.2.1.length c152] Try.isAgg24 Try.sizeOf24 rfl rfl rfl rfl ⟨rfl, Below.refl _ _⟩) ?_
      refine al_on 11 (.bool true) hsub rfl (by kernel_rfl) (by kernel_rfl) (fun w hI => s_call 18 [.agg #[iv y135.1, slv g137 y135.2.1.length c138], .agg #[iv y149.1, slv g151 y149.2.1.length c152]] (by kernel_rfl) (Does.mono (L18 _ y135.1 (g137.map fun b => ⟨b, 0, none⟩) c138 y135.2.1 y149.1 (g151.map fun b => ⟨b, 0, none⟩) c152 y149.2.1 (hI.rowCells 3 rfl r140) (len_le rfl r140.big) (len_le rfl r140.cap) (hI.rowCells 1 rfl r154) (len_le rfl r154.big) (len_le rfl r154.cap) N _ hy178) (fun v' w' h => ⟨h.1.trans (congrArg Value.bool h24), h.2⟩)) (fun v' w' h => h)) ?_
      refine alp 12 (.bool true) hsub rfl (by kernel_rfl) (fun _ => (by kernel_rfl)) ?_
      refine alp 13 (.bool true) hsub rfl (by kernel_rfl) (fun _ => (by kernel_rfl)) ?_
      refine al_on 14 (iv y135.2.2) hsub rfl (by kernel_rfl) (by kernel_rfl) (fun w hI => s_pure (iv y135.2.2) (by kernel_rfl) ⟨rfl, Below.refl _ _⟩) ?_
      refine al_on 15 (iv y149.2.2) hsub rfl (by kernel_rfl) (by kernel_rfl) (fun w hI => s_pure (iv y149.2.2) (by kernel_rfl) ⟨rfl, Below.refl _ _⟩) ?_
      refine al_on 16 (.bool true) hsub rfl (by kernel_rfl) (by kernel_rfl) (fun w hI => s_eql rfl rfl (fun _ => ⟨rfl, Below.refl _ _⟩) (fun h => absurd (a := y135.2.2 = y149.2.2) h25 h)) ?_
      refine alp 17 (.bool true) hsub rfl (by kernel_rfl) (fun _ => (by kernel_rfl)) ?_
      refine alp 18 (.bool true) hsub rfl (by kernel_rfl) (fun _ => (by kernel_rfl)) ?_
      refine al_on 19 (.agg #[iv p2.lo, iv p2.hi, iv p2.toll]) hsub rfl (by kernel_rfl) (by kernel_rfl) (fun w hI => s_loadK hI 8 3 [iv p2.lo, iv p2.hi, iv p2.toll] Try.isAgg30 Try.sizeOf30 rfl rfl rfl rfl ⟨rfl, Below.refl _ _⟩) ?_
      refine al_on 20 (iv y179) hsub rfl (by kernel_rfl) (by kernel_rfl) (fun w hI => s_call 19 [.agg #[iv p2.lo, iv p2.hi, iv p2.toll]] (by kernel_rfl) (L19 _ p2 _ hy180) (fun v' w' h => h)) ?_
      refine al_on 21 (.agg #[iv p2.lo, iv p2.hi, iv p2.toll]) hsub rfl (by kernel_rfl) (by kernel_rfl) (fun w hI => s_loadK hI 8 3 [iv p2.lo, iv p2.hi, iv p2.toll] Try.isAgg30 Try.sizeOf30 rfl rfl rfl rfl ⟨rfl, Below.refl _ _⟩) ?_
      refine al_on 22 (iv y181) hsub rfl (by kernel_rfl) (by kernel_rfl) (fun w hI => s_call 20 [.agg #[iv p2.lo, iv p2.hi, iv p2.toll]] (by kernel_rfl) (L20 _ p2 _ hy182) (fun v' w' h => h)) ?_
      refine al_on 23 (.bool false) hsub rfl (by kernel_rfl) (by kernel_rfl) (fun w hI => s_eql rfl rfl (fun h => absurd (a := y179 = y181) h h26) (fun _ => ⟨rfl, Below.refl _ _⟩)) ?_
      refine alp 24 (.bool false) hsub rfl (by kernel_rfl) (fun _ => (by kernel_rfl)) ?_
      refine alp 25 (.bool false) hsub rfl (by kernel_rfl) (fun _ => (by kernel_rfl)) ?_
      refine al_off 26 hsub rfl (by kernel_rfl) (by kernel_rfl) ?_
      refine al_off 27 hsub rfl (by kernel_rfl) (by kernel_rfl) ?_
      refine al_off 28 hsub rfl (by kernel_rfl) (by kernel_rfl) ?_
      refine al_off 29 hsub rfl (by kernel_rfl) (by kernel_rfl) ?_
      refine al_off 30 hsub rfl (by kernel_rfl) (by kernel_rfl) ?_
      refine alp 31 (.bool false) hsub rfl (by kernel_rfl) (fun _ => (by kernel_rfl)) ?_
      refine alp 32 (.bool false) hsub rfl (by kernel_rfl) (fun _ => (by kernel_rfl)) ?_
      refine al_off 33 hsub rfl (by kernel_rfl) (by kernel_rfl) ?_
      refine al_off 34 hsub rfl (by kernel_rfl) (by kernel_rfl) ?_
      refine al_off 35 hsub rfl (by kernel_rfl) (by kernel_rfl) ?_
      refine al_off 36 hsub rfl (by kernel_rfl) (by kernel_rfl) ?_
      refine al_off 37 hsub rfl (by kernel_rfl) (by kernel_rfl) ?_
      refine alp 38 (.bool false) hsub rfl (by kernel_rfl) (fun _ => (by kernel_rfl)) ?_
      refine alp 39 (.bool false) hsub rfl (by kernel_rfl) (fun _ => (by kernel_rfl)) ?_
      refine al_off 40 hsub rfl (by kernel_rfl) (by kernel_rfl) ?_
      refine alp 41 (.bool false) hsub rfl (by kernel_rfl) (fun _ => (by kernel_rfl)) ?_
      refine alp 42 (.bool false) hsub rfl (by kernel_rfl) (fun _ => (by kernel_rfl)) ?_
      refine any_end (by kernel_rfl) (fun w hI => ?_)
      refine wp_ret ?_
      replace hF := Option.some.inj hF; subst hF
      exact ⟨.bool false, Ret.r1 rfl rfl, ⟨rfl, hI.below⟩⟩
    ·
     refine wp_drawn2 hI [0, 1, 2, 3, 4, 5, 6, 7, 8, 9, 10] (by decide) rfl (by kernel_rfl) (by kernel_rfl) ?_
     intro hsub
     refine al_light 0 (.agg #[iv y107.1, slv g109 y107.2.1.length c110]) hsub rfl (by kernel_rfl) (fun w hI => s_loadK hI 6 2 [iv y107.1, slv g109 y107.2.1.length c110] Try.isAgg24 Try.sizeOf24 rfl rfl rfl rfl ⟨rfl, Below.refl _ _⟩) ?_
     refine al_light 1 (.agg #[iv y121.1, slv g123 y121.2.1.length c124]) hsub rfl (by kernel_rfl) (fun w hI => s_loadK hI 4 2 [iv y121.1, slv g123 y121.2.1.length c124] Try.isAgg24 Try.sizeOf24 rfl rfl rfl rfl ⟨rfl, Below.refl _ _⟩) ?_
     refine al_light 2 (.bool true) hsub rfl (by kernel_rfl) (fun w hI => s_call 18 [.agg #[iv y107.1, slv g109 y107.2.1.length c110], .agg #[iv y121.1, slv g123 y121.2.1.length c124]] (by kernel_rfl) (Does.mono (L18 _ y107.1 (g109.map fun b => ⟨b, 0, none⟩) c110 y107.2.1 y121.1 (g123.map fun b => ⟨b, 0, none⟩) c124 y121.2.1 (hI.rowCells 7 rfl r112) (len_le rfl r112.big) (len_le rfl r112.cap) (hI.rowCells 5 rfl r126) (len_le rfl r126.big) (len_le rfl r126.cap) N _ hy176) (fun v' w' h => ⟨h.1.trans (congrArg Value.bool h22), h.2⟩)) (fun v' w' h => h)) ?_
     refine alp 3 (.bool true) hsub rfl (by kernel_rfl) (fun _ => (by kernel_rfl)) ?_
     refine al_on 4 (iv y107.2.2) hsub rfl (by kernel_rfl) (by kernel_rfl) (fun w hI => s_pure (iv y107.2.2) (by kernel_rfl) ⟨rfl, Below.refl _ _⟩) ?_
     refine al_on 5 (iv y121.2.2) hsub rfl (by kernel_rfl) (by kernel_rfl) (fun w hI => s_pure (iv y121.2.2) (by kernel_rfl) ⟨rfl, Below.refl _ _⟩) ?_
     refine al_on 6 (.bool true) hsub rfl (by kernel_rfl) (by kernel_rfl) (fun w hI => s_eql rfl rfl (fun _ => ⟨rfl, Below.refl _ _⟩) (fun h => absurd (a := y107.2.2 = y121.2.2) h23 h)) ?_
     refine alp 7 (.bool true) hsub rfl (by kernel_rfl) (fun _ => (by kernel_rfl)) ?_
     refine alp 8 (.bool true) hsub rfl (by kernel_rfl) (fun _ => (by kernel_rfl)) ?_
     refine al_on 9 (.agg #[iv y135.1, slv g137 y135.2.1.length c138]) hsub rfl (by kernel_rfl) (by kernel_rfl) (fun w hI => s_loadK hI 2 2 [iv y135.1, slv g137 y135.2.1.length c138] Try.isAgg24 Try.sizeOf24 rfl rfl rfl rfl ⟨rfl, Below.refl _ _⟩) ?_
     refine al_on 10 (.agg #[iv y149.1, slv g151 y149.2.1.length c152]) hsub rfl (by kernel_rfl) (by kernel_rfl) (fun w hI => s_loadK hI 0 2 [iv y149.1, slv g151 y149.2.1.length c152] Try.isAgg24 Try.sizeOf24 rfl rfl rfl rfl ⟨rfl, Below.refl _ _⟩) ?_
     refine al_on 11 (.bool true) hsub rfl (by kernel_rfl) (by kernel_rfl) (fun w hI => s_call 18 [.agg #[iv y135.1, slv g137 y135.2.1.length c138], .agg #[iv y149.1, slv g151 y149.2.1.length c152]] (by kernel_rfl) (Does.mono (L18 _ y135.1 (g137.map fun b => ⟨b, 0, none⟩) c138 y135.2.1 y149.1 (g151.map fun b => ⟨b, 0, none⟩) c152 y149.2.1 (hI.rowCells 3 rfl r140) (len_le rfl r140.big) (len_le rfl r140.cap) (hI.rowCells 1 rfl r154) (len_le rfl r154.big) (len_le rfl r154.cap) N _ hy178) (fun v' w' h => ⟨h.1.trans (congrArg Value.bool h24), h.2⟩)) (fun v' w' h => h)) ?_
     refine alp 12 (.bool true) hsub rfl (by kernel_rfl) (fun _ => (by kernel_rfl)) ?_
     refine alp 13 (.bool true) hsub rfl (by kernel_rfl) (fun _ => (by kernel_rfl)) ?_
     refine al_on 14 (iv y135.2.2) hsub rfl (by kernel_rfl) (by kernel_rfl) (fun w hI => s_pure (iv y135.2.2) (by kernel_rfl) ⟨rfl, Below.refl _ _⟩) ?_
     refine al_on 15 (iv y149.2.2) hsub rfl (by kernel_rfl) (by kernel_rfl) (fun w hI => s_pure (iv y149.2.2) (by kernel_rfl) ⟨rfl, Below.refl _ _⟩) ?_
     refine al_on 16 (.bool false) hsub rfl (by kernel_rfl) (by kernel_rfl) (fun w hI => s_eql rfl rfl (fun h => absurd (a := y135.2.2 = y149.2.2) h h25) (fun _ => ⟨rfl, Below.refl _ _⟩)) ?_
     refine alp 17 (.bool false) hsub rfl (by kernel_rfl) (fun _ => (by kernel_rfl)) ?_
     refine alp 18 (.bool false) hsub rfl (by kernel_rfl) (fun _ => (by kernel_rfl)) ?_
     refine al_off 19 hsub rfl (by kernel_rfl) (by kernel_rfl) ?_
     refine al_off 20 hsub rfl (by kernel_rfl) (by kernel_rfl) ?_
     refine al_off 21 hsub rfl (by kernel_rfl) (by kernel_rfl) ?_
     refine al_off 22 hsub rfl (by kernel_rfl) (by kernel_rfl) ?_
     refine al_off 23 hsub rfl (by kernel_rfl) (by kernel_rfl) ?_
     refine alp 24 (.bool false) hsub rfl (by kernel_rfl) (fun _ => (by kernel_rfl)) ?_
     refine alp 25 (.bool false) hsub rfl (by kernel_rfl) (fun _ => (by kernel_rfl)) ?_
     refine al_off 26 hsub rfl (by kernel_rfl) (by kernel_rfl) ?_
     refine al_off 27 hsub rfl (by kernel_rfl) (by kernel_rfl) ?_
     refine al_off 28 hsub rfl (by kernel_rfl) (by kernel_rfl) ?_
     refine al_off 29 hsub rfl (by kernel_rfl) (by kernel_rfl) ?_
     refine al_off 30 hsub rfl (by kernel_rfl) (by kernel_rfl) ?_
     refine alp 31 (.bool false) hsub rfl (by kernel_rfl) (fun _ => (by kernel_rfl)) ?_
     refine alp 32 (.bool false) hsub rfl (by kernel_rfl) (fun _ => (by kernel_rfl)) ?_
     refine al_off 33 hsub rfl (by kernel_rfl) (by kernel_rfl) ?_
     refine al_off 34 hsub rfl (by kernel_rfl) (by kernel_rfl) ?_
     refine al_off 35 hsub rfl (by kernel_rfl) (by kernel_rfl) ?_
     refine al_off 36 hsub rfl (by kernel_rfl) (by kernel_rfl) ?_
     refine al_off 37 hsub rfl (by kernel_rfl) (by kernel_rfl) ?_
     refine alp 38 (.bool false) hsub rfl (by kernel_rfl) (fun _ => (by kernel_rfl)) ?_
     refine alp 39 (.bool false) hsub rfl (by kernel_rfl) (fun _ => (by kernel_rfl)) ?_
     refine al_off 40 hsub rfl (by kernel_rfl) (by kernel_rfl) ?_
     refine alp 41 (.bool false) hsub rfl (by kernel_rfl) (fun _ => (by kernel_rfl)) ?_
     refine alp 42 (.bool false) hsub rfl (by kernel_rfl) (fun _ => (by kernel_rfl)) ?_
     refine any_end (by kernel_rfl) (fun w hI => ?_)
     refine wp_ret ?_
     replace hF := Option.some.inj hF; subst hF
     exact ⟨.bool false, Ret.r1 rfl rfl, ⟨rfl, hI.below⟩⟩
   ·
    refine wp_drawn2 hI [0, 1, 2, 3, 4, 5, 6, 7, 8, 9, 10] (by decide) rfl (by kernel_rfl) (by kernel_rfl) ?_
    intro hsub
    refine al_light 0 (.agg #[iv y107.1, slv g109 y107.2.1.length c110]) hsub rfl (by kernel_rfl) (fun w hI => s_loadK hI 6 2 [iv y107.1, slv g109 y107.2.1.length c110] Try.isAgg24 Try.sizeOf24 rfl rfl rfl rfl ⟨rfl, Below.refl _ _⟩) ?_
    refine al_light 1 (.agg #[iv y121.1, slv g123 y121.2.1.length c124]) hsub rfl (by kernel_rfl) (fun w hI => s_loadK hI 4 2 [iv y121.1, slv g123 y121.2.1.length c124] Try.isAgg24 Try.sizeOf24 rfl rfl rfl rfl ⟨rfl, Below.refl _ _⟩) ?_
    refine al_light 2 (.bool true) hsub rfl (by kernel_rfl) (fun w hI => s_call 18 [.agg #[iv y107.1, slv g109 y107.2.1.length c110], .agg #[iv y121.1, slv g123 y121.2.1.length c124]] (by kernel_rfl) (Does.mono (L18 _ y107.1 (g109.map fun b => ⟨b, 0, none⟩) c110 y107.2.1 y121.1 (g123.map fun b => ⟨b, 0, none⟩) c124 y121.2.1 (hI.rowCells 7 rfl r112) (len_le rfl r112.big) (len_le rfl r112.cap) (hI.rowCells 5 rfl r126) (len_le rfl r126.big) (len_le rfl r126.cap) N _ hy176) (fun v' w' h => ⟨h.1.trans (congrArg Value.bool h22), h.2⟩)) (fun v' w' h => h)) ?_
    refine alp 3 (.bool true) hsub rfl (by kernel_rfl) (fun _ => (by kernel_rfl)) ?_
    refine al_on 4 (iv y107.2.2) hsub rfl (by kernel_rfl) (by kernel_rfl) (fun w hI => s_pure (iv y107.2.2) (by kernel_rfl) ⟨rfl, Below.refl _ _⟩) ?_
    refine al_on 5 (iv y121.2.2) hsub rfl (by kernel_rfl) (by kernel_rfl) (fun w hI => s_pure (iv y121.2.2) (by kernel_rfl) ⟨rfl, Below.refl _ _⟩) ?_
    refine al_on 6 (.bool true) hsub rfl (by kernel_rfl) (by kernel_rfl) (fun w hI => s_eql rfl rfl (fun _ => ⟨rfl, Below.refl _ _⟩) (fun h => absurd (a := y107.2.2 = y121.2.2) h23 h)) ?_
    refine alp 7 (.bool true) hsub rfl (by kernel_rfl) (fun _ => (by kernel_rfl)) ?_
    refine alp 8 (.bool true) hsub rfl (by kernel_rfl) (fun _ => (by kernel_rfl)) ?_
    refine al_on 9 (.agg #[iv y135.1, slv g137 y135.2.1.length c138]) hsub rfl (by kernel_rfl) (by kernel_rfl) (fun w hI => s_loadK hI 2 2 [iv y135.1, slv g137 y135.2.1.length c138] Try.isAgg24 Try.sizeOf24 rfl rfl rfl rfl ⟨rfl, Below.refl _ _⟩) ?_
    refine al_on 10 (.agg #[iv y149.1, slv g151 y149.2.1.length c152]) hsub rfl (by kernel_rfl) (by kernel_rfl) (fun w hI => s_loadK hI 0 2 [iv y149.1, slv g151 y149.2.1.length c152] Try.isAgg24 Try.sizeOf24 rfl rfl rfl rfl ⟨rfl, Below.refl _ _⟩) ?_
    refine al_on 11 (.bool false) hsub rfl (by kernel_rfl) (by kernel_rfl) (fun w hI => s_call 18 [.agg #[iv y135.1, slv g137 y135.2.1.length c138], .agg #[iv y149.1, slv g151 y149.2.1.length c152]] (by kernel_rfl) (Does.mono (L18 _ y135.1 (g137.map fun b => ⟨b, 0, none⟩) c138 y135.2.1 y149.1 (g151.map fun b => ⟨b, 0, none⟩) c152 y149.2.1 (hI.rowCells 3 rfl r140) (len_le rfl r140.big) (len_le rfl r140.cap) (hI.rowCells 1 rfl r154) (len_le rfl r154.big) (len_le rfl r154.cap) N _ hy178) (fun v' w' h => ⟨h.1.trans (congrArg Value.bool (Bool.eq_false_iff.2 h24)), h.2⟩)) (fun v' w' h => h)) ?_
    refine alp 12 (.bool false) hsub rfl (by kernel_rfl) (fun _ => (by kernel_rfl)) ?_
    refine alp 13 (.bool false) hsub rfl (by kernel_rfl) (fun _ => (by kernel_rfl)) ?_
    refine al_off 14 hsub rfl (by kernel_rfl) (by kernel_rfl) ?_
    refine al_off 15 hsub rfl (by kernel_rfl) (by kernel_rfl) ?_
    refine al_off 16 hsub rfl (by kernel_rfl) (by kernel_rfl) ?_
    refine alp 17 (.bool false) hsub rfl (by kernel_rfl) (fun _ => (by kernel_rfl)) ?_
    refine alp 18 (.bool false) hsub rfl (by kernel_rfl) (fun _ => (by kernel_rfl)) ?_
    refine al_off 19 hsub rfl (by kernel_rfl) (by kernel_rfl) ?_
    refine al_off 20 hsub rfl (by kernel_rfl) (by kernel_rfl) ?_
    refine al_off 21 hsub rfl (by kernel_rfl) (by kernel_rfl) ?_
    refine al_off 22 hsub rfl (by kernel_rfl) (by kernel_rfl) ?_
    refine al_off 23 hsub rfl (by kernel_rfl) (by kernel_rfl) ?_
    refine alp 24 (.bool false) hsub rfl (by kernel_rfl) (fun _ => (by kernel_rfl)) ?_
    refine alp 25 (.bool false) hsub rfl (by kernel_rfl) (fun _ => (by kernel_rfl)) ?_
    refine al_off 26 hsub rfl (by kernel_rfl) (by kernel_rfl) ?_
    refine al_off 27 hsub rfl (by kernel_rfl) (by kernel_rfl) ?_
    refine al_off 28 hsub rfl (by kernel_rfl) (by kernel_rfl) ?_
    refine al_off 29 hsub rfl (by kernel_rfl) (by kernel_rfl) ?_
    refine al_off 30 hsub rfl (by kernel_rfl) (by kernel_rfl) ?_
    refine alp 31 (.bool false) hsub rfl (by kernel_rfl) (fun _ => (by kernel_rfl)) ?_
    refine alp 32 (.bool false) hsub rfl (by kernel_rfl) (fun _ => (by kernel_rfl)) ?_
    refine al_off 33 hsub rfl (by kernel_rfl) (by kernel_rfl) ?_
    refine al_off 34 hsub rfl (by kernel_rfl) (by kernel_rfl) ?_
    refine al_off 35 hsub rfl (by kernel_rfl) (by kernel_rfl) ?_
    refine al_off 36 hsub rfl (by kernel_rfl) (by kernel_rfl) ?_
    refine al_off 37 hsub rfl (by kernel_rfl) (by kernel_rfl) ?_
    refine alp 38 (.bool false) hsub rfl (by kernel_rfl) (fun _ => (by kernel_rfl)) ?_
    refine alp 39 (.bool false) hsub rfl (by kernel_rfl) (fun _ => (by kernel_rfl)) ?_
    refine al_off 40 hsub rfl (by kernel_rfl) (by kernel_rfl) ?_
    refine alp 41 (.bool false) hsub rfl (by kernel_rfl) (fun _ => (by kernel_rfl)) ?_
    refine alp 42 (.bool false) hsub rfl (by kernel_rfl) (fun _ => (by kernel_rfl)) ?_
    refine any_end (by kernel_rfl) (fun w hI => ?_)
    refine wp_ret ?_
    replace hF := Option.some.inj hF; subst hF
    exact ⟨.bool false, Ret.r1 rfl rfl, ⟨rfl, hI.below⟩⟩
  ·
   refine wp_drawn2 hI [0, 1, 2, 3, 4, 5, 6, 7, 8, 9, 10] (by decide) rfl (by kernel_rfl) (by kernel_rfl) ?_
   intro hsub
   refine al_light 0 (.agg #[iv y107.1, slv g109 y107.2.1.length c110]) hsub rfl (by kernel_rfl) (fun w hI => s_loadK hI 6 2 [iv y107.1, slv g109 y107.2.1.length c110] Try.isAgg24 Try.sizeOf24 rfl rfl rfl rfl ⟨rfl, Below.refl _ _⟩) ?_
   refine al_light 1 (.agg #[iv y121.1, slv g123 y121.2.1.length c124]) hsub rfl (by kernel_rfl) (fun w hI => s_loadK hI 4 2 [iv y121.1, slv g123 y121.2.1.length c124] Try.isAgg24 Try.sizeOf24 rfl rfl rfl rfl ⟨rfl, Below.refl _ _⟩) ?_
   refine al_light 2 (.bool true) hsub rfl (by kernel_rfl) (fun w hI => s_call 18 [.agg #[iv y107.1, slv g109 y107.2.1.length c110], .agg #[iv y121.1, slv g123 y121.2.1.length c124]] (by kernel_rfl) (Does.mono (L18 _ y107.1 (g109.map fun b => ⟨b, 0, none⟩) c110 y107.2.1 y121.1 (g123.map fun b => ⟨b, 0, none⟩) c124 y121.2.1 (hI.rowCells 7 rfl r112) (len_le rfl r112.big) (len_le rfl r112.cap) (hI.rowCells 5 rfl r126) (len_le rfl r126.big) (len_le rfl r126.cap) N _ hy176) (fun v' w' h => ⟨h.1.trans (congrArg Value.bool h22), h.2⟩)) (fun v' w' h => h)) ?_
   refine alp 3 (.bool true) hsub rfl (by kernel_rfl) (fun _ => (by kernel_rfl)) ?_
   refine al_on 4 (iv y107.2.2) hsub rfl (by kernel_rfl) (by kernel_rfl) (fun w hI => s_pure (iv y107.2.2) (by kernel_rfl) ⟨rfl, Below.refl _ _⟩) ?_
   refine al_on 5 (iv y121.2.2) hsub rfl (by kernel_rfl) (by kernel_rfl) (fun w hI => s_pure (iv y121.2.2) (by kernel_rfl) ⟨rfl, Below.refl _ _⟩) ?_
   refine al_on 6 (.bool false) hsub rfl (by kernel_rfl) (by kernel_rfl) (fun w hI => s_eql rfl rfl (fun h => absurd (a := y107.2.2 = y121.2.2) h h23) (fun _ => ⟨rfl, Below.refl _ _⟩)) ?_
   refine alp 7 (.bool false) hsub rfl (by kernel_rfl) (fun _ => (by kernel_rfl)) ?_
   refine alp 8 (.bool false) hsub rfl (by kernel_rfl) (fun _ => (by kernel_rfl)) ?_
   refine al_off 9 hsub rfl (by kernel_rfl) (by kernel_rfl) ?_
   refine al_off 10 hsub rfl (by kernel_rfl) (by kernel_rfl) ?_
   refine al_off 11 hsub rfl (by kernel_rfl) (by kernel_rfl) ?_
   refine alp 12 (.bool false) hsub rfl (by kernel_rfl) (fun _ => (by kernel_rfl)) ?_
   refine alp 13 (.bool false) hsub rfl (by kernel_rfl) (fun _ => (by kernel_rfl)) ?_
   refine al_off 14 hsub rfl (by kernel_rfl) (by kernel_rfl) ?_
   refine al_off 15 hsub rfl (by kernel_rfl) (by kernel_rfl) ?_
   refine al_off 16 hsub rfl (by kernel_rfl) (by kernel_rfl) ?_
   refine alp 17 (.bool false) hsub rfl (by kernel_rfl) (fun _ => (by kernel_rfl)) ?_
   refine alp 18 (.bool false) hsub rfl (by kernel_rfl) (fun _ => (by kernel_rfl)) ?_
   refine al_off 19 hsub rfl (by kernel_rfl) (by kernel_rfl) ?_
   refine al_off 20 hsub rfl (by kernel_rfl) (by kernel_rfl) ?_
   refine al_off 21 hsub rfl (by kernel_rfl) (by kernel_rfl) ?_
   refine al_off 22 hsub rfl (by kernel_rfl) (by kernel_rfl) ?_
   refine al_off 23 hsub rfl (by kernel_rfl) (by kernel_rfl) ?_
   refine alp 24 (.bool false) hsub rfl (by kernel_rfl) (fun _ => (by kernel_rfl)) ?_
   refine alp 25 (.bool false) hsub rfl (by kernel_rfl) (fun _ => (by kernel_rfl)) ?_
   refine al_off 26 hsub rfl (by kernel_rfl) (by kernel_rfl) ?_
   refine al_off 27 hsub rfl (by kernel_rfl) (by kernel_rfl) ?_
   refine al_off 28 hsub rfl (by kernel_rfl) (by kernel_rfl) ?_
   refine al_off 29 hsub rfl (by kernel_rfl) (by kernel_rfl) ?_
   refine al_off 30 hsub rfl (by kernel_rfl) (by kernel_rfl) ?_
   refine alp 31 (.bool false) hsub rfl (by kernel_rfl) (fun _ => (by kernel_rfl)) ?_
   refine alp 32 (.bool false) hsub rfl (by kernel_rfl) (fun _ => (by kernel_rfl)) ?_
   refine al_off 33 hsub rfl (by kernel_rfl) (by kernel_rfl) ?_
   refine al_off 34 hsub rfl (by kernel_rfl) (by kernel_rfl) ?_
   refine al_off 35 hsub rfl (by kernel_rfl) (by kernel_rfl) ?_
   refine al_off 36 hsub rfl (by kernel_rfl) (by kernel_rfl) ?_
   refine al_off 37 hsub rfl (by kernel_rfl) (by kernel_rfl) ?_
   refine alp 38 (.bool false) hsub rfl (by kernel_rfl) (fun _ => (by kernel_rfl)) ?_
   refine alp 39 (.bool false) hsub rfl (by kernel_rfl) (fun _ => (by kernel_rfl)) ?_
   refine al_off 40 hsub rfl (by kernel_rfl) (by kernel_rfl) ?_
   refine alp 41 (.bool false) hsub rfl (by kernel_rfl) (fun _ => (by kernel_rfl)) ?_
   refine alp 42 (.bool false) hsub rfl (by kernel_rfl) (fun _ => (by kernel_rfl)) ?_
   refine any_end (by kernel_rfl) (fun w hI => ?_)
   refine wp_ret ?_
   replace hF := Option.some.inj hF; subst hF
   exact ⟨.bool false, Ret.r1 rfl rfl, ⟨rfl, hI.below⟩⟩
 ·
  refine wp_drawn2 hI [0, 1, 2, 3, 4, 5, 6, 7, 8, 9, 10] (by decide) rfl (by kernel_rfl) (by kernel_rfl) ?_
  intro hsub
  refine al_light 0 (.agg #[iv y107.1, slv g109 y107.2.1.length c110]) hsub rfl (by kernel_rfl) (fun w hI => s_loadK hI 6 2 [iv y107.1, slv g109 y107.2.1.length c110] Try.isAgg24 Try.sizeOf24 rfl rfl rfl rfl ⟨rfl, Below.refl _ _⟩) ?_
  refine al_light 1 (.agg #[iv y121.1, slv g123 y121.2.1.length c124]) hsub rfl (by kernel_rfl) (fun w hI => s_loadK hI 4 2 [iv y121.1, slv g123 y121.2.1.length c124] Try.isAgg24 Try.sizeOf24 rfl rfl rfl rfl ⟨rfl, Below.refl _ _⟩) ?_
  refine al_light 2 (.bool false) hsub rfl (by kernel_rfl) (fun w hI => s_call 18 [.agg #[iv y107.1, slv g109 y107.2.1.length c110], .agg #[iv y121.1, slv g123 y121.2.1.length c124]] (by kernel_rfl) (Does.mono (L18 _ y107.1 (g109.map fun b => ⟨b, 0, none⟩) c110 y107.2.1 y121.1 (g123.map fun b => ⟨b, 0, none⟩) c124 y121.2.1 (hI.rowCells 7 rfl r112) (len_le rfl r112.big) (len_le rfl r112.cap) (hI.rowCells 5 rfl r126) (len_le rfl r126.big) (len_le rfl r126.cap) N _ hy176) (fun v' w' h => ⟨h.1.trans (congrArg Value.bool (Bool.eq_false_iff.2 h22)), h.2⟩)) (fun v' w' h => h)) ?_
  refine alp 3 (.bool false) hsub rfl (by kernel_rfl) (fun _ => (by kernel_rfl)) ?_
  refine al_off 4 hsub rfl (by kernel_rfl) (by kernel_rfl) ?_
  refine al_off 5 hsub rfl (by kernel_rfl) (by kernel_rfl) ?_
  refine al_off 6 hsub rfl (by kernel_rfl) (by kernel_rfl) ?_
  refine alp 7 (.bool false) hsub rfl (by kernel_rfl) (fun _ => (by kernel_rfl)) ?_
  refine alp 8 (.bool false) hsub rfl (by kernel_rfl) (fun _ => (by kernel_rfl)) ?_
  refine al_off 9 hsub rfl (by kernel_rfl) (by kernel_rfl) ?_
  refine al_off 10 hsub rfl (by kernel_rfl) (by kernel_rfl) ?_
  refine al_off 11 hsub rfl (by kernel_rfl) (by kernel_rfl) ?_
  refine alp 12 (.bool false) hsub rfl (by kernel_rfl) (fun _ => (by kernel_rfl)) ?_
  refine alp 13 (.bool false) hsub rfl (by kernel_rfl) (fun _ => (by kernel_rfl)) ?_
  refine al_off 14 hsub rfl (by kernel_rfl) (by kernel_rfl) ?_
  refine al_off 15 hsub rfl (by kernel_rfl) (by kernel_rfl) ?_
  refine al_off 16 hsub rfl (by kernel_rfl) (by kernel_rfl) ?_
  refine alp 17 (.bool false) hsub rfl (by kernel_rfl) (fun _ => (by kernel_rfl)) ?_
  refine alp 18 (.bool false) hsub rfl (by kernel_rfl) (fun _ => (by kernel_rfl)) ?_
  refine al_off 19 hsub rfl (by kernel_rfl) (by kernel_rfl) ?_
  refine al_off 20 hsub rfl (by kernel_rfl) (by kernel_rfl) ?_
  refine al_off 21 hsub rfl (by kernel_rfl) (by kernel_rfl) ?_
  refine al_off 22 hsub rfl (by kernel_rfl) (by kernel_rfl) ?_
  refine al_off 23 hsub rfl (by kernel_rfl) (by kernel_rfl) ?_
  refine alp 24 (.bool false) hsub rfl (by kernel_rfl) (fun _ => (by kernel_rfl)) ?_
  refine alp 25 (.bool false) hsub rfl (by kernel_rfl) (fun _ => (by kernel_rfl)) ?_
  refine al_off 26 hsub rfl (by kernel_rfl) (by kernel_rfl) ?_
  refine al_off 27 hsub rfl (by kernel_rfl) (by kernel_rfl) ?_
  refine al_off 28 hsub rfl (by kernel_rfl) (by kernel_rfl) ?_
  refine al_off 29 hsub rfl (by kernel_rfl) (by kernel_rfl) ?_
  refine al_off 30 hsub rfl (by kernel_rfl) (by kernel_rfl) ?_
  refine alp 31 (.bool false) hsub rfl (by kernel_rfl) (fun _ => (by kernel_rfl)) ?_
  refine alp 32 (.bool false) hsub rfl (by kernel_rfl) (fun _ => (by kernel_rfl)) ?_
  refine al_off 33 hsub rfl (by kernel_rfl) (by kernel_rfl) ?_
  refine al_off 34 hsub rfl (by kernel_rfl) (by kernel_rfl) ?_
  refine al_off 35 hsub rfl (by kernel_rfl) (by kernel_rfl) ?_
  refine al_off 36 hsub rfl (by kernel_rfl) (by kernel_rfl) ?_
  refine al_off 37 hsub rfl (by kernel_rfl) (by kernel_rfl) ?_
  refine alp 38 (.bool false) hsub rfl (by kernel_rfl) (fun _ => (by kernel_rfl)) ?_
  refine alp 39 (.bool false) hsub rfl (by kernel_rfl) (fun _ => (by kernel_rfl)) ?_
  refine al_off 40 hsub rfl (by kernel_rfl) (by kernel_rfl) ?_
  refine alp 41 (.bool false) hsub rfl (by kernel_rfl) (fun _ => (by kernel_rfl)) ?_
  refine alp 42 (.bool false) hsub rfl (by kernel_rfl) (fun _ => (by kernel_rfl)) ?_
  refine any_end (by kernel_rfl) (fun w hI => ?_)
  refine wp_ret ?_
  replace hF := Option.some.inj hF; subst hF
  exact ⟨.bool false, Ret.r1 rfl rfl, ⟨rfl, hI.below⟩⟩


end Go.K
