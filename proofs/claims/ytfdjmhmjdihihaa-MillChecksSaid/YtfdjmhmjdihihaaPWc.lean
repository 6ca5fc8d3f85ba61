/- That the functions do what the pure definitions say: walks, as tools/lift.py writes them. No condition. -/
import Derived.Test.YtfdjmhmjdihihaaPWb
namespace Go.K
open Go.Proofs Go.RowKit
set_option linter.unusedVariables false
set_option linter.unusedSimpArgs false
set_option maxRecDepth 100000
attribute [local irreducible] Seq Step CallV AnyE opX
theorem L25 (w0 : World) (N : Nat) (r : Bool) (hF : F25 N = some r) : Does Try.prog 25 [] w0 fun v w => v = .bool r ∧ Below w0.heap.size w0 w := by
 refine calls_of (n := 173) Try.func25 rfl Try.ntmps25 rfl ?_
 have hI := Inv.start w0
 unfold F25 at hF
 refine wp_seq (rgn (by kernel_rfl) (pu (.bool false) (by kernel_rfl) (seq_nil (wp_seq (rgn (by kernel_rfl) (bindE hF (fun y122 hy123 hF => ?_)))))))
 refine seq_c (s_call 72 [] (by kernel_rfl) (L72 _ _ hy123) ?_)
 rintro v w ⟨g124, c125, cl126, rfl, hN, r127⟩
 have hI := hI.join hN; clear hN
 refine seq_c (s_allocI hI [iv 0, .slice none 0 0] Try.zeroValue24 rfl ?_)
 intro b128 w hI
 refine seq_c (s_store hI 0 2 [iv y122.1, slv g124 y122.2.length c125] Try.sizeOf24 rfl rfl rfl rfl rfl (Nat.le_of_ble_eq_true rfl) ?_)
 intro w hI
 refine seq_nil (wp_seq (rgn (by kernel_rfl) (pu (.agg #[iv 40, iv 60]) (by kernel_rfl) (pu (.agg #[iv 40, iv 60, iv 16]) (by kernel_rfl) (seq_c (s_allocI hI [iv 0, iv 0, iv 0] Try.zeroValue30 rfl ?_))))))
 intro b129 w hI
 refine seq_c (s_store hI 0 3 [iv 40, iv 60, iv 16] Try.sizeOf30 rfl rfl rfl rfl rfl (Nat.le_of_ble_eq_true rfl) ?_)
 intro w hI
 refine seq_nil (wp_seq (rgn (by kernel_rfl) (seq_c (s_loadK hI 0 3 [iv 40, iv 60, iv 16] Try.isAgg30 Try.sizeOf30 rfl rfl rfl rfl ?_))))
 refine pu (.agg #[iv 10, iv 35]) (by kernel_rfl) (bindE hF (fun y133 hy134 hF => ?_))
 refine seq_c (s_callv hI 26 [.agg #[iv 40, iv 60, iv 16], .agg #[iv 10, iv 35]] (.tuple #[.agg #[iv y133.1, iv y133.2.1], iv y133.2.2]) (by kernel_rfl) (L26 _ (⟨40, 60, 16⟩ : Yl) (⟨10, 35⟩ : Rg) _ hy134) ?_)
 intro w hI
 refine pu (.tuple #[.agg #[iv y133.1, iv y133.2.1], iv y133.2.2]) (by kernel_rfl) (pu (.agg #[iv y133.1, iv y133.2.1]) (by kernel_rfl) (pu (iv y133.2.2) (by kernel_rfl) (seq_c (s_allocI hI [iv 0, iv 0] Try.zeroValue28 rfl ?_))))
 intro b135 w hI
 refine seq_c (s_store hI 0 2 [iv y133.1, iv y133.2.1] Try.sizeOf28 rfl rfl rfl rfl rfl (Nat.le_of_ble_eq_true rfl) ?_)
 intro w hI
 refine pu (iv y133.2.2) (by kernel_rfl) (seq_nil (wp_seq (rgn (by kernel_rfl) (seq_c (s_loadK hI 1 3 [iv 40, iv 60, iv 16] Try.isAgg30 Try.sizeOf30 rfl rfl rfl rfl ?_)))))
 refine pu (.agg #[iv 40, iv 40]) (by kernel_rfl) (bindE hF (fun y139 hy140 hF => ?_))
 refine seq_c (s_callv hI 30 [.agg #[iv 40, iv 60, iv 16], .agg #[iv 40, iv 40]] (.tuple #[.agg #[iv y139.1, iv y139.2.1], iv y139.2.2]) (by kernel_rfl) (L30 _ (⟨40, 60, 16⟩ : Yl) (⟨40, 40⟩ : Rg) _ hy140) ?_)
 intro w hI
 refine pu (.tuple #[.agg #[iv y139.1, iv y139.2.1], iv y139.2.2]) (by kernel_rfl) (pu (.agg #[iv y139.1, iv y139.2.1]) (by kernel_rfl) (pu (iv y139.2.2) (by kernel_rfl) (seq_c (s_allocI hI [iv 0, iv 0] Try.zeroValue28 rfl ?_))))
 intro b141 w hI
 refine seq_c (s_store hI 0 2 [iv y139.1, iv y139.2.1] Try.sizeOf28 rfl rfl rfl rfl rfl (Nat.le_of_ble_eq_true rfl) ?_)
 intro w hI
 refine pu (iv y139.2.2) (by kernel_rfl) (seq_nil (wp_seq (rgn (by kernel_rfl) (seq_c (s_loadK hI 2 3 [iv 40, iv 60, iv 16] Try.isAgg30 Try.sizeOf30 rfl rfl rfl rfl ?_)))))
 refine pu (.agg #[iv 4, iv 4]) (by kernel_rfl) (bindE hF (fun y145 hy146 hF => ?_))
 refine seq_c (s_callv hI 32 [.agg #[iv 40, iv 60, iv 16], .agg #[iv 4, iv 4]] (.tuple #[.agg #[iv y145.1, iv y145.2.1], iv y145.2.2]) (by kernel_rfl) (L32 _ (⟨40, 60, 16⟩ : Yl) (⟨4, 4⟩ : Rg) N _ hy146) ?_)
 intro w hI
 refine pu (.tuple #[.agg #[iv y145.1, iv y145.2.1], iv y145.2.2]) (by kernel_rfl) (pu (.agg #[iv y145.1, iv y145.2.1]) (by kernel_rfl) (pu (iv y145.2.2) (by kernel_rfl) (seq_c (s_allocI hI [iv 0, iv 0] Try.zeroValue28 rfl ?_))))
 intro b147 w hI
 refine seq_c (s_store hI 0 2 [iv y145.1, iv y145.2.1] Try.sizeOf28 rfl rfl rfl rfl rfl (Nat.le_of_ble_eq_true rfl) ?_)
 intro w hI
 refine pu (iv y145.2.2) (by kernel_rfl) (seq_nil (wp_seq (rgn (by kernel_rfl) (bindE hF (fun y150 hy151 hF => ?_)))))
 refine seq_c (s_callv hI 34 [iv 25, iv 8] (.tuple #[iv y150.1, iv y150.2]) (by kernel_rfl) (L34 _ 25 8 _ hy151) ?_)
 intro w hI
 refine pu (.tuple #[iv y150.1, iv y150.2]) (by kernel_rfl) (pu (iv y150.1) (by kernel_rfl) (pu (iv y150.2) (by kernel_rfl) (pu (iv y150.1) (by kernel_rfl) (pu (iv y150.2) (by kernel_rfl) (seq_nil (wp_seq (rgn (by kernel_rfl) (seq_c (s_loadK hI 4 2 [iv y122.1, slv g124 y122.2.length c125] Try.isAgg24 Try.sizeOf24 rfl rfl rfl rfl ?_)))))))))
 refine bindE hF (fun y154 hy155 hF => ?_)
 refine seq_c (s_callv hI 36 [.agg #[iv y122.1, slv g124 y122.2.length c125]] (.tuple #[iv y154.1, iv y154.2]) (by kernel_rfl) (L36 _ y122.1 (g124.map fun b => ⟨b, 0, none⟩) c125 y122.2 (hI.rowCells 5 rfl r127) (len_le rfl r127.big) (len_le rfl r127.cap) N _ hy155) ?_)
 intro w hI
 refine pu (.tuple #[iv y154.1, iv y154.2]) (by kernel_rfl) (pu (iv y154.1) (by kernel_rfl) (pu (iv y154.2) (by kernel_rfl) (pu (iv y154.1) (by kernel_rfl) (pu (iv y154.2) (by kernel_rfl) (seq_nil (wp_seq (rgn (by kernel_rfl) (seq_c (s_loadK hI 4 2 [iv y122.1, slv g124 y122.2.length c125] Try.isAgg24 Try.sizeOf24 rfl rfl rfl rfl ?_)))))))))
 refine bindE hF (fun y162 hy163 hF => ?_)
 refine seq_c (s_call 38 [.agg #[iv y122.1, slv g124 y122.2.length c125]] (by kernel_rfl) (L38 _ y122.1 (g124.map fun b => ⟨b, 0, none⟩) c125 y122.2 (hI.rowCells 5 rfl r127) (len_le rfl r127.big) (len_le rfl r127.cap) N _ hy163) ?_)
 rintro v w ⟨g164, c165, cl166, rfl, hN, r167⟩
 have hI := hI.join hN; clear hN
 refine pu (.tuple #[slv g164 y162.1.length c165, iv y162.2]) (by kernel_rfl) (pu (slv g164 y162.1.length c165) (by kernel_rfl) (pu (iv y162.2) (by kernel_rfl) (pu (slv g164 y162.1.length c165) (by kernel_rfl) (pu (iv y162.2) (by kernel_rfl) (seq_nil (wp_seq (rgn (by kernel_rfl) (seq_c (s_loadK hI 5 2 [iv y122.1, slv g124 y122.2.length c125] Try.isAgg24 Try.sizeOf24 rfl rfl rfl rfl ?_)))))))))
 refine seq_c (s_new hI [iv 2, iv 1, iv 2, iv 1] 3 (fun b => slv (some b) 4 4) (by kernel_rfl) ?_)
 intro b171 w hI
 refine bindE hF (fun y172 hy173 hF => ?_)
 refine seq_c (s_callv hI 44 [.agg #[iv y122.1, slv g124 y122.2.length c125], .slice (some ⟨b171, 0, none⟩) 4 4] (.tuple #[.bool y172.1, iv y172.2]) (by kernel_rfl) (L44 _ y122.1 (g124.map fun b => ⟨b, 0, none⟩) c125 y122.2 (some ⟨b171, 0, none⟩) 4 [2, 1, 2, 1] (hI.rowCells 7 rfl r127) (len_le rfl r127.big) (len_le rfl r127.cap) (hI.cells 0 (off := 0) rfl (fun j u h => by rw [Nat.zero_add]; exact h)) (Nat.le_of_ble_eq_true rfl) (Nat.le_refl _) N _ hy173) ?_)
 intro w hI
 refine pu (.tuple #[.bool y172.1, iv y172.2]) (by kernel_rfl) (pu (.bool y172.1) (by kernel_rfl) (pu (iv y172.2) (by kernel_rfl) (pu (.bool y172.1) (by kernel_rfl) (pu (iv y172.2) (by kernel_rfl) (seq_nil (wp_seq (rgn (by kernel_rfl) (seq_c (s_loadK hI 6 2 [iv y122.1, slv g124 y122.2.length c125] Try.isAgg24 Try.sizeOf24 rfl rfl rfl rfl ?_)))))))))
 refine bindE hF (fun y176 hy177 hF => ?_)
 refine seq_c (s_callv hI 53 [.agg #[iv y122.1, slv g124 y122.2.length c125], iv 9, iv 3] (.tuple #[iv y176.1, iv y176.2]) (by kernel_rfl) (L53 _ y122.1 (g124.map fun b => ⟨b, 0, none⟩) c125 y122.2 9 3 (hI.rowCells 7 rfl r127) (len_le rfl r127.big) (len_le rfl r127.cap) N _ hy177) ?_)
 intro w hI
 refine pu (.tuple #[iv y176.1, iv y176.2]) (by kernel_rfl) (pu (iv y176.1) (by kernel_rfl) (pu (iv y176.2) (by kernel_rfl) (pu (iv y176.1) (by kernel_rfl) (pu (iv y176.2) (by kernel_rfl) (seq_nil (wp_seq (rgn (by kernel_rfl) (seq_c (s_loadK hI 6 2 [iv y122.1, slv g124 y122.2.length c125] Try.isAgg24 Try.sizeOf24 rfl rfl rfl rfl ?_)))))))))
 refine bindE hF (fun y184 hy185 hF => ?_)
 refine seq_c (s_call 55 [.agg #[iv y122.1, slv g124 y122.2.length c125]] (by kernel_rfl) (L55 _ y122.1 (g124.map fun b => ⟨b, 0, none⟩) c125 y122.2 (hI.rowCells 7 rfl r127) (len_le rfl r127.big) (len_le rfl r127.cap) N _ hy185) ?_)
 rintro v w ⟨g186, c187, cl188, rfl, hN, r189⟩
 have hI := hI.join hN; clear hN
 refine pu (.tuple #[slv g186 y184.1.length c187, iv y184.2]) (by kernel_rfl) (pu (slv g186 y184.1.length c187) (by kernel_rfl) (pu (iv y184.2) (by kernel_rfl) (pu (slv g186 y184.1.length c187) (by kernel_rfl) (pu (iv y184.2) (by kernel_rfl) (seq_nil (wp_seq (rgn (by kernel_rfl) (seq_c (s_loadK hI 7 2 [iv y122.1, slv g124 y122.2.length c125] Try.isAgg24 Try.sizeOf24 rfl rfl rfl rfl ?_)))))))))
 refine bindE hF (fun y196 hy197 hF => ?_)
 refine seq_c (s_call 57 [.agg #[iv y122.1, slv g124 y122.2.length c125], iv 2] (by kernel_rfl) (L57 _ y122.1 (g124.map fun b => ⟨b, 0, none⟩) c125 y122.2 2 (hI.rowCells 8 rfl r127) (len_le rfl r127.big) (len_le rfl r127.cap) N _ hy197) ?_)
 rintro v w ⟨g198, c199, cl200, rfl, hN, r201⟩
 have hI := hI.join hN; clear hN
 refine pu (.tuple #[slv g198 y196.1.length c199, iv y196.2]) (by kernel_rfl) (pu (slv g198 y196.1.length c199) (by kernel_rfl) (pu (iv y196.2) (by kernel_rfl) (pu (slv g198 y196.1.length c199) (by kernel_rfl) (pu (iv y196.2) (by kernel_rfl) (seq_nil (wp_cutO (fun ρ w => ∃ (v202 : Bool), Agree ρ [(1, .pointer (some ⟨b128, 0, none⟩)), (3, .pointer (some ⟨b135, 0, none⟩)), (5, .pointer (some ⟨b141, 0, none⟩)), (7, .pointer (some ⟨b147, 0, none⟩)), (9, iv y150.1), (11, iv y154.1), (13, slv g164 y162.1.length c165), (15, .bool y172.1), (17, iv y176.1), (19, slv g186 y184.1.length c187), (21, slv g198 y196.1.length c199), (23, .bool v202)] ∧ Inv [] w0 w [(some b128, blk [iv y122.1, slv g124 y122.2.length c125] 24), (g124, blk cl126 26), (some b135, blk [iv y133.1, iv y133.2.1] 28), (some b141, blk [iv y139.1, iv y139.2.1] 28), (some b147, blk [iv y145.1, iv y145.2.1] 28), (g164, blk cl166 3), (g186, blk cl188 3), (g198, blk cl200 3)] ∧ F25j1 N y122 y133 y139 y145 y150 y154 y162 y172 y176 y184 y196 v202 = some r) ?_ ?_))))))
 ·
  refine rgn (by kernel_rfl) (pu (iv y133.2.2) (by kernel_rfl) (ifE hF (fun h75 hF => ?_) (fun h75 hF => ?_)))
  ·
   refine seq_c (s_eql rfl rfl (fun _ => ?_) (fun h => absurd (a := y133.2.2 = 0) h75 h))
   refine pu (.bool true) (by kernel_rfl) (puo (iv y139.2.2) ⟨(by kernel_rfl), (by kernel_rfl)⟩ (ifE hF (fun h76 hF => ?_) (fun h76 hF => ?_)))
   ·
    refine seq_on (by kernel_rfl) (s_eql rfl rfl (fun _ => ?_) (fun h => absurd (a := y139.2.2 = 0) h76 h))
    refine pu (.bool true) (by kernel_rfl) (pu (.bool true) (by kernel_rfl) (puo (iv y145.2.2) ⟨(by kernel_rfl), (by kernel_rfl)⟩ (ifE hF (fun h77 hF => ?_) (fun h77 hF => ?_))))
    ·
     refine seq_on (by kernel_rfl) (s_eql rfl rfl (fun _ => ?_) (fun h => absurd (a := y145.2.2 = 0) h77 h))
     refine pu (.bool true) (by kernel_rfl) (pu (.bool true) (by kernel_rfl) (puo (iv y150.2) ⟨(by kernel_rfl), (by kernel_rfl)⟩ (ifE hF (fun h78 hF => ?_) (fun h78 hF => ?_))))
     ·
      refine seq_on (by kernel_rfl) (s_eql rfl rfl (fun _ => ?_) (fun h => absurd (a := y150.2 = 0) h78 h))
      refine pu (.bool true) (by kernel_rfl) (pu (.bool true) (by kernel_rfl) (puo (iv y154.2) ⟨(by kernel_rfl), (by kernel_rfl)⟩ (ifE hF (fun h79 hF => ?_) (fun h79 hF => ?_))))
      ·
       refine seq_on (by kernel_rfl) (s_eql rfl rfl (fun _ => ?_) (fun h => absurd (a := y154.2 = 0) h79 h))
       refine pu (.bool true) (by kernel_rfl) (pu (.bool true) (by kernel_rfl) (puo (iv y162.2) ⟨(by kernel_rfl), (by kernel_rfl)⟩ (ifE hF (fun h80 hF => ?_) (fun h80 hF => ?_))))
       ·
        refine seq_on (by kernel_rfl) (s_eql rfl rfl (fun _ => ?_) (fun h => absurd (a := y162.2 = 0) h80 h))
        refine pu (.bool true) (by kernel_rfl) (pu (.bool true) (by kernel_rfl) (puo (iv y172.2) ⟨(by kernel_rfl), (by kernel_rfl)⟩ (ifE hF (fun h81 hF => ?_) (fun h81 hF => ?_))))
        ·
         refine seq_on (by kernel_rfl) (s_eql rfl rfl (fun _ => ?_) (fun h => absurd (a := y172.2 = 0) h81 h))
         refine pu (.bool true) (by kernel_rfl) (pu (.bool true) (by kernel_rfl) (puo (iv y176.2) ⟨(by kernel_rfl), (by kernel_rfl)⟩ (ifE hF (fun h82 hF => ?_) (fun h82 hF => ?_))))
         ·
          refine seq_on (by kernel_rfl) (s_eql rfl rfl (fun _ => ?_) (fun h => absurd (a := y176.2 = 0) h82 h))
          refine pu (.bool true) (by kernel_rfl) (pu (.bool true) (by kernel_rfl) (puo (iv y184.2) ⟨(by kernel_rfl), (by kernel_rfl)⟩ (ifE hF (fun h83 hF => ?_) (fun h83 hF => ?_))))
          ·
           refine seq_on (by kernel_rfl) (s_eql rfl rfl (fun _ => ?_) (fun h => absurd (a := y184.2 = 0) h83 h))
           refine pu (.bool true) (by kernel_rfl) (pu (.bool true) (by kernel_rfl) (puo (iv y196.2) ⟨(by kernel_rfl), (by kernel_rfl)⟩ (ifE hF (fun h84 hF => ?_) (fun h84 hF => ?_))))
           ·
            refine seq_on (by kernel_rfl) (s_eql rfl rfl (fun _ => ?_) (fun h => absurd (a := y196.2 = 0) h84 h))
            refine pu (.bool true) (by kernel_rfl) (pu (.bool true) (by kernel_rfl) (seq_nil ?_))
            exact .inl ⟨rfl, ⟨true, ⟨rfl, rfl, rfl, rfl, rfl, rfl, rfl, rfl, rfl, rfl, rfl, rfl, trivial⟩, hI.pickL [8, 9, 6, 5, 4, 3, 1, 0] (by decide) rfl, hF⟩⟩
           ·
            refine seq_on (by kernel_rfl) (s_eql rfl rfl (fun h => absurd (a := y196.2 = 0) h h84) (fun _ => ?_))
            refine pu (.bool false) (by kernel_rfl) (pu (.bool false) (by kernel_rfl) (seq_nil ?_))
            exact .inl ⟨rfl, ⟨false, ⟨rfl, rfl, rfl, rfl, rfl, rfl, rfl, rfl, rfl, rfl, rfl, rfl, trivial⟩, hI.pickL [8, 9, 6, 5, 4, 3, 1, 0] (by decide) rfl, hF⟩⟩
          ·
           refine seq_on (by kernel_rfl) (s_eql rfl rfl (fun h => absurd (a := y184.2 = 0) h h83) (fun _ => ?_))
           refine pu (.bool false) (by kernel_rfl) (pu (.bool false) (by kernel_rfl) (of_ (by kernel_rfl) (of_ (by kernel_rfl) (pu (.bool false) (by kernel_rfl) (pu (.bool false) (by kernel_rfl) (seq_nil ?_))))))
           exact .inl ⟨rfl, ⟨false, ⟨rfl, rfl, rfl, rfl, rfl, rfl, rfl, rfl, rfl, rfl, rfl, rfl, trivial⟩, hI.pickL [8, 9, 6, 5, 4, 3, 1, 0] (by decide) rfl, hF⟩⟩
         ·
          refine seq_on (by kernel_rfl) (s_eql rfl rfl (fun h => absurd (a := y176.2 = 0) h h82) (fun _ => ?_))
          refine pu (.bool false) (by kernel_rfl) (pu (.bool false) (by kernel_rfl) (of_ (by kernel_rfl) (of_ (by kernel_rfl) (pu (.bool false) (by kernel_rfl) (pu (.bool false) (by kernel_rfl) (of_ (by kernel_rfl) (of_ (by kernel_rfl) (pu (.bool false) (by kernel_rfl) (pu (.bool false) (by kernel_rfl) ?_)))))))))
          refine seq_nil ?_
          exact .inl ⟨rfl, ⟨false, ⟨rfl, rfl, rfl, rfl, rfl, rfl, rfl, rfl, rfl, rfl, rfl, rfl, trivial⟩, hI.pickL [8, 9, 6, 5, 4, 3, 1, 0] (by decide) rfl, hF⟩⟩
        ·
         refine seq_on (by kernel_rfl) (s_eql rfl rfl (fun h => absurd (a := y172.2 = 0) h h81) (fun _ => ?_))
         refine pu (.bool false) (by kernel_rfl) (pu (.bool false) (by kernel_rfl) (of_ (by kernel_rfl) (of_ (by kernel_rfl) (pu (.bool false) (by kernel_rfl) (pu (.bool false) (by kernel_rfl) (of_ (by kernel_rfl) (of_ (by kernel_rfl) (pu (.bool false) (by kernel_rfl) (pu (.bool false) (by kernel_rfl) ?_)))))))))
         refine of_ (by kernel_rfl) (of_ (by kernel_rfl) (pu (.bool false) (by kernel_rfl) (pu (.bool false) (by kernel_rfl) (seq_nil ?_))))
         exact .inl ⟨rfl, ⟨false, ⟨rfl, rfl, rfl, rfl, rfl, rfl, rfl, rfl, rfl, rfl, rfl, rfl, trivial⟩, hI.pickL [8, 9, 6, 5, 4, 3, 1, 0] (by decide) rfl, hF⟩⟩
       ·
        refine seq_on (by kernel_rfl) (s_eql rfl rfl (fun h => absurd (a := y162.2 = 0) h h80) (fun _ => ?_))
        refine pu (.bool false) (by kernel_rfl) (pu (.bool false) (by kernel_rfl) (of_ (by kernel_rfl) (of_ (by kernel_rfl) (pu (.bool false) (by kernel_rfl) (pu (.bool false) (by kernel_rfl) (of_ (by kernel_rfl) (of_ (by kernel_rfl) (pu (.bool false) (by kernel_rfl) (pu (.bool false) (by kernel_rfl) ?_)))))))))
        refine of_ (by kernel_rfl) (of_ (by kernel_rfl) (pu (.bool false) (by kernel_rfl) (pu (.bool false) (by kernel_rfl) (of_ (by kernel_rfl) (of_ (by kernel_rfl) (pu (.bool false) (by kernel_rfl) (pu (.bool false) (by kernel_rfl) (seq_nil ?_))))))))
        exact .inl ⟨rfl, ⟨false, ⟨rfl, rfl, rfl, rfl, rfl, rfl, rfl, rfl, rfl, rfl, rfl, rfl, trivial⟩, hI.pickL [8, 9, 6, 5, 4, 3, 1, 0] (by decide) rfl, hF⟩⟩
      ·
       refine seq_on (by kernel_rfl) (s_eql rfl rfl (fun h => absurd (a := y154.2 = 0) h h79) (fun _ => ?_))
       refine pu (.bool false) (by kernel_rfl) (pu (.bool false) (by kernel_rfl) (of_ (by kernel_rfl) (of_ (by kernel_rfl) (pu (.bool false) (by kernel_rfl) (pu (.bool false) (by kernel_rfl) (of_ (by kernel_rfl) (of_ (by kernel_rfl) (pu (.bool false) (by kernel_rfl) (pu (.bool false) (by kernel_rfl) ?_)))))))))
       refine of_ (by kernel_rfl) (of_ (by kernel_rfl) (pu (.bool false) (by kernel_rfl) (pu (.bool false) (by kernel_rfl) (of_ (by kernel_rfl) (of_ (by kernel_rfl) (pu (.bool false) (by kernel_rfl) (pu (.bool false) (by kernel_rfl) (of_ (by kernel_rfl) (of_ (by kernel_rfl) ?_)))))))))
       refine pu (.bool false) (by kernel_rfl) (pu (.bool false) (by kernel_rfl) (seq_nil ?_))
       exact .inl ⟨rfl, ⟨false, ⟨rfl, rfl, rfl, rfl, rfl, rfl, rfl, rfl, rfl, rfl, rfl, rfl, trivial⟩, hI.pickL [8, 9, 6, 5, 4, 3, 1, 0] (by decide) rfl, hF⟩⟩
     ·
      refine seq_on (by kernel_rfl) (s_eql rfl rfl (fun h => absurd (a := y150.2 = 0) h h78) (fun _ => ?_))
      refine pu (.bool false) (by kernel_rfl) (pu (.bool false) (by kernel_rfl) (of_ (by kernel_rfl) (of_ (by kernel_rfl) (pu (.bool false) (by kernel_rfl) (pu (.bool false) (by kernel_rfl) (of_ (by kernel_rfl) (of_ (by kernel_rfl) (pu (.bool false) (by kernel_rfl) (pu (.bool false) (by kernel_rfl) ?_)))))))))
      refine of_ (by kernel_rfl) (of_ (by kernel_rfl) (pu (.bool false) (by kernel_rfl) (pu (.bool false) (by kernel_rfl) (of_ (by kernel_rfl) (of_ (by kernel_rfl) (pu (.bool false) (by kernel_rfl) (pu (.bool false) (by kernel_rfl) (of_ (by kernel_rfl) (of_ (by kernel_rfl) ?_)))))))))
      refine pu (.bool false) (by kernel_rfl) (pu (.bool false) (by kernel_rfl) (of_ (by kernel_rfl) (of_ (by kernel_rfl) (pu (.bool false) (by kernel_rfl) (pu (.bool false) (by kernel_rfl) (seq_nil ?_))))))
      exact .inl ⟨rfl, ⟨false, ⟨rfl, rfl, rfl, rfl, rfl, rfl, rfl, rfl, rfl, rfl, rfl, rfl, trivial⟩, hI.pickL [8, 9, 6, 5, 4, 3, 1, 0] (by decide) rfl, hF⟩⟩
    ·
     refine seq_on (by kernel_rfl) (s_eql rfl rfl (fun h => absurd (a := y145.2.2 = 0) h h77) (fun _ => ?_))
     refine pu (.bool false) (by kernel_rfl) (pu (.bool false) (by kernel_rfl) (of_ (by kernel_rfl) (of_ (by kernel_rfl) (pu (.bool false) (by kernel_rfl) (pu (.bool false) (by kernel_rfl) (of_ (by kernel_rfl) (of_ (by kernel_rfl) (pu (.bool false) (by kernel_rfl) (pu (.bool false) (by kernel_rfl) ?_)))))))))
     refine of_ (by kernel_rfl) (of_ (by kernel_rfl) (pu (.bool false) (by kernel_rfl) (pu (.bool false) (by kernel_rfl) (of_ (by kernel_rfl) (of_ (by kernel_rfl) (pu (.bool false) (by kernel_rfl) (pu (.bool false) (by kernel_rfl) (of_ (by kernel_rfl) (of_ (by kernel_rfl) ?_)))))))))
     refine pu (.bool false) (by kernel_rfl) (pu (.bool false) (by kernel_rfl) (of_ (by kernel_rfl) (of_ (by kernel_rfl) (pu (.bool false) (by kernel_rfl) (pu (.bool false) (by kernel_rfl) (of_ (by kernel_rfl) (of_ (by kernel_rfl) (pu (.bool false) (by kernel_rfl) (pu (.bool false) (by kernel_rfl) ?_)))))))))
     refine seq_nil ?_
     exact .inl ⟨rfl, ⟨false, ⟨rfl, rfl, rfl, rfl, rfl, rfl, rfl, rfl, rfl, rfl, rfl, rfl, trivial⟩, hI.pickL [8, 9, 6, 5, 4, 3, 1, 0] (by decide) rfl, hF⟩⟩
   ·
    refine seq_on (by kernel_rfl) (s_eql rfl rfl (fun h => absurd (a := y139.2.2 = 0) h h76) (fun _ => ?_))
    refine pu (.bool false) (by kernel_rfl) (pu (.bool false) (by kernel_rfl) (of_ (by kernel_rfl) (of_ (by kernel_rfl) (pu (.bool false) (by kernel_rfl) (pu (.bool false) (by kernel_rfl) (of_ (by kernel_rfl) (of_ (by kernel_rfl) (pu (.bool false) (by kernel_rfl) (pu (.bool false) (by kernel_rfl) ?_)))))))))
    refine of_ (by kernel_rfl) (of_ (by kernel_rfl) (pu (.bool false) (by kernel_rfl) (pu (.bool false) (by kernel_rfl) (of_ (by kernel_rfl) (of_ (by kernel_rfl) (pu (.bool false) (by kernel_rfl) (pu (.bool false) (by kernel_rfl) (of_ (by kernel_rfl) (of_ (by kernel_rfl) ?_)))))))))
    refine pu (.bool false) (by kernel_rfl) (pu (.bool false) (by kernel_rfl) (of_ (by kernel_rfl) (of_ (by kernel_rfl) (pu (.bool false) (by kernel_rfl) (pu (.bool false) (by kernel_rfl) (of_ (by kernel_rfl) (of_ (by kernel_rfl) (pu (.bool false) (by kernel_rfl) (pu (.bool false) (by kernel_rfl) ?_)))))))))
    refine of_ (by kernel_rfl) (of_ (by kernel_rfl) (pu (.bool false) (by kernel_rfl) (pu (.bool false) (by kernel_rfl) (seq_nil ?_))))
    exact .inl ⟨rfl, ⟨false, ⟨rfl, rfl, rfl, rfl, rfl, rfl, rfl, rfl, rfl, rfl, rfl, rfl, trivial⟩, hI.pickL [8, 9, 6, 5, 4, 3, 1, 0] (by decide) rfl, hF⟩⟩
  ·
   refine seq_c (s_eql rfl rfl (fun h => absurd (a := y133.2.2 = 0) h h75) (fun _ => ?_))
   refine pu (.bool false) (by kernel_rfl) (of_ (by kernel_rfl) (of_ (by kernel_rfl) (pu (.bool false) (by kernel_rfl) (pu (.bool false) (by kernel_rfl) (of_ (by kernel_rfl) (of_ (by kernel_rfl) (pu (.bool false) (by kernel_rfl) (pu (.bool false) (by kernel_rfl) (of_ (by kernel_rfl) ?_)))))))))
   refine of_ (by kernel_rfl) (pu (.bool false) (by kernel_rfl) (pu (.bool false) (by kernel_rfl) (of_ (by kernel_rfl) (of_ (by kernel_rfl) (pu (.bool false) (by kernel_rfl) (pu (.bool false) (by kernel_rfl) (of_ (by kernel_rfl) (of_ (by kernel_rfl) (pu (.bool false) (by kernel_rfl) ?_)))))))))
   refine pu (.bool false) (by kernel_rfl) (of_ (by kernel_rfl) (of_ (by kernel_rfl) (pu (.bool false) (by kernel_rfl) (pu (.bool false) (by kernel_rfl) (of_ (by kernel_rfl) (of_ (by kernel_rfl) (pu (.bool false) (by kernel_rfl) (pu (.bool false) (by kernel_rfl) (of_ (by kernel_rfl) ?_)))))))))
   refine of_ (by kernel_rfl) (pu (.bool false) (by kernel_rfl) (pu (.bool false) (by kernel_rfl) (of_ (by kernel_rfl) (of_ (by kernel_rfl) (pu (.bool false) (by kernel_rfl) (pu (.bool false) (by kernel_rfl) (seq_nil ?_)))))))
   exact .inl ⟨rfl, ⟨false, ⟨rfl, rfl, rfl, rfl, rfl, rfl, rfl, rfl, rfl, rfl, rfl, rfl, trivial⟩, hI.pickL [8, 9, 6, 5, 4, 3, 1, 0] (by decide) rfl, hF⟩⟩
 ·intro ρ w hJ
  obtain ⟨v202, hag, hI, hF⟩ := hJ
  obtain ⟨ρ, rfl⟩ := hag.form; clear hag
  unfold F25j1 at hF
  refine wp_cutO (fun ρ w => ∃ (v206 : Bool), Agree ρ [(1, .pointer (some ⟨b128, 0, none⟩)), (17, iv y176.1), (19, slv g186 y184.1.length c187), (21, slv g198 y196.1.length c199), (23, .bool v202), (24, .bool v206)] ∧ Inv [] w0 w [(some b128, blk [iv y122.1, slv g124 y122.2.length c125] 24), (g124, blk cl126 26), (g186, blk cl188 3), (g198, blk cl200 3)] ∧ F25j2 N y122 y176 y184 y196 v202 v206 = some r) ?_ ?_
  ·
   refine rgn (by kernel_rfl) (seq_c (s_loadK hI 2 2 [iv y133.1, iv y133.2.1] Try.isAgg28 Try.sizeOf28 rfl rfl rfl rfl ?_))
   refine pu (.agg #[iv 4, iv 21]) (by kernel_rfl) (ifE hF (fun h68 hF => ?_) (fun h68 hF => ?_))
   ·
    refine seq_c (s_eqlA (b := decide (y133.1 = 4) && decide (y133.2.1 = 21)) rfl rfl (by kernel_rfl) (fun w => eq28 _ y133.1 y133.2.1 4 21 w) (fun _ => ?_) (fun h => absurd (a := (decide (y133.1 = 4) && decide (y133.2.1 = 21)) = true) h68 h))
    refine pu (.bool true) (by kernel_rfl) (seq_on (by kernel_rfl) (s_loadK hI 3 2 [iv y139.1, iv y139.2.1] Try.isAgg28 Try.sizeOf28 rfl rfl rfl rfl ?_))
    refine puo (.agg #[iv 15, iv 23]) ⟨(by kernel_rfl), (by kernel_rfl)⟩ (ifE hF (fun h69 hF => ?_) (fun h69 hF => ?_))
    ·
     refine seq_on (by kernel_rfl) (s_eqlA (b := decide (y139.1 = 15) && decide (y139.2.1 = 23)) rfl rfl (by kernel_rfl) (fun w => eq28 _ y139.1 y139.2.1 15 23 w) (fun _ => ?_) (fun h => absurd (a := (decide (y139.1 = 15) && decide (y139.2.1 = 23)) = true) h69 h))
     refine pu (.bool true) (by kernel_rfl) (pu (.bool true) (by kernel_rfl) (seq_on (by kernel_rfl) (s_loadK hI 4 2 [iv y145.1, iv y145.2.1] Try.isAgg28 Try.sizeOf28 rfl rfl rfl rfl ?_)))
     refine puo (.agg #[iv 7, iv 12]) ⟨(by kernel_rfl), (by kernel_rfl)⟩ (ifE hF (fun h70 hF => ?_) (fun h70 hF => ?_))
     ·
      refine seq_on (by kernel_rfl) (s_eqlA (b := decide (y145.1 = 7) && decide (y145.2.1 = 12)) rfl rfl (by kernel_rfl) (fun w => eq28 _ y145.1 y145.2.1 7 12 w) (fun _ => ?_) (fun h => absurd (a := (decide (y145.1 = 7) && decide (y145.2.1 = 12)) = true) h70 h))
      refine pu (.bool true) (by kernel_rfl) (pu (.bool true) (by kernel_rfl) (puo (iv y150.1) ⟨(by kernel_rfl), (by kernel_rfl)⟩ (ifE hF (fun h71 hF => ?_) (fun h71 hF => ?_))))
      ·
       refine seq_on (by kernel_rfl) (s_eql rfl rfl (fun _ => ?_) (fun h => absurd (a := y150.1 = 4) h71 h))
       refine pu (.bool true) (by kernel_rfl) (pu (.bool true) (by kernel_rfl) (puo (iv y154.1) ⟨(by kernel_rfl), (by kernel_rfl)⟩ (ifE hF (fun h72 hF => ?_) (fun h72 hF => ?_))))
       ·
        refine seq_on (by kernel_rfl) (s_eql rfl rfl (fun _ => ?_) (fun h => absurd (a := y154.1 = 1) h72 h))
        refine pu (.bool true) (by kernel_rfl) (pu (.bool true) (by kernel_rfl) (puo (slv g164 y162.1.length c165) ⟨(by kernel_rfl), (by kernel_rfl)⟩ (seq_on (by kernel_rfl) (s_new hI [iv 2, iv 1, iv 1, iv 1] 3 (fun b => slv (some b) 4 4) (by kernel_rfl) ?_))))
        intro b226 w hI
        refine bindE hF (fun y227 hy228 hF => ?_)
        refine ifE hF (fun h73 hF => ?_) (fun h73 hF => ?_)
        ·
         refine seq_on (by kernel_rfl) (s_callv hI 41 [slv g164 y162.1.length c165, .slice (some ⟨b226, 0, none⟩) 4 4] (.bool true) (by kernel_rfl) (Does.mono (L41 _ (g164.map fun b => ⟨b, 0, none⟩) c165 y162.1 (some ⟨b226, 0, none⟩) 4 [2, 1, 1, 1] (hI.rowCells 6 rfl r167) (len_le rfl r167.big) (len_le rfl r167.cap) (hI.cells 0 (off := 0) rfl (fun j u h => by rw [Nat.zero_add]; exact h)) (Nat.le_of_ble_eq_true rfl) (Nat.le_refl _) N _ hy228) (fun v' w' h => ⟨h.1.trans (congrArg Value.bool h73), h.2⟩)) ?_)
         intro w hI
         refine pu (.bool true) (by kernel_rfl) (pu (.bool true) (by kernel_rfl) (puo (.bool y172.1) ⟨(by kernel_rfl), (by kernel_rfl)⟩ (ifE hF (fun h74 hF => ?_) (fun h74 hF => ?_))))
         ·
          refine seq_on (by kernel_rfl) (s_not (a := true) (congrArg Value.bool h74) ?_)
          refine pu (.bool false) (by kernel_rfl) (pu (.bool false) (by kernel_rfl) (seq_nil ?_))
          exact .inl ⟨rfl, ⟨false, ⟨rfl, rfl, rfl, rfl, rfl, rfl, trivial⟩, hI.pickL [1, 2, 7, 8] (by decide) rfl, hF⟩⟩
         ·
          refine seq_on (by kernel_rfl) (s_not (a := false) (congrArg Value.bool (Bool.eq_false_iff.2 h74)) ?_)
          refine pu (.bool true) (by kernel_rfl) (pu (.bool true) (by kernel_rfl) (seq_nil ?_))
          exact .inl ⟨rfl, ⟨true, ⟨rfl, rfl, rfl, rfl, rfl, rfl, trivial⟩, hI.pickL [1, 2, 7, 8] (by decide) rfl, hF⟩⟩
        ·
         refine seq_on (by kernel_rfl) (s_callv hI 41 [slv g164 y162.1.length c165, .slice (some ⟨b226, 0, none⟩) 4 4] (.bool false) (by kernel_rfl) (Does.mono (L41 _ (g164.map fun b => ⟨b, 0, none⟩) c165 y162.1 (some ⟨b226, 0, none⟩) 4 [2, 1, 1, 1] (hI.rowCells 6 rfl r167) (len_le rfl r167.big) (len_le rfl r167.cap) (hI.cells 0 (off := 0) rfl (fun j u h => by rw [Nat.zero_add]; exact h)) (Nat.le_of_ble_eq_true rfl) (Nat.le_refl _) N _ hy228) (fun v' w' h => ⟨h.1.trans (congrArg Value.bool (Bool.eq_false_iff.2 h73)), h.2⟩)) ?_)
         intro w hI
         refine pu (.bool false) (by kernel_rfl) (pu (.bool false) (by kernel_rfl) (of_ (by kernel_rfl) (of_ (by kernel_rfl) (pu (.bool false) (by kernel_rfl) (pu (.bool false) (by kernel_rfl) (seq_nil ?_))))))
         exact .inl ⟨rfl, ⟨false, ⟨rfl, rfl, rfl, rfl, rfl, rfl, trivial⟩, hI.pickL [1, 2, 7, 8] (by decide) rfl, hF⟩⟩
       ·
        refine seq_on (by kernel_rfl) (s_eql rfl rfl (fun h => absurd (a := y154.1 = 1) h h72) (fun _ => ?_))
        refine pu (.bool false) (by kernel_rfl) (pu (.bool false) (by kernel_rfl) (of_ (by kernel_rfl) (of_ (by kernel_rfl) (of_ (by kernel_rfl) (pu (.bool false) (by kernel_rfl) (pu (.bool false) (by kernel_rfl) (of_ (by kernel_rfl) (of_ (by kernel_rfl) (pu (.bool false) (by kernel_rfl) ?_)))))))))
        refine pu (.bool false) (by kernel_rfl) (seq_nil ?_)
        exact .inl ⟨rfl, ⟨false, ⟨rfl, rfl, rfl, rfl, rfl, rfl, trivial⟩, hI.pickL [0, 1, 6, 7] (by decide) rfl, hF⟩⟩
      ·
       refine seq_on (by kernel_rfl) (s_eql rfl rfl (fun h => absurd (a := y150.1 = 4) h h71) (fun _ => ?_))
       refine pu (.bool false) (by kernel_rfl) (pu (.bool false) (by kernel_rfl) (of_ (by kernel_rfl) (of_ (by kernel_rfl) (pu (.bool false) (by kernel_rfl) (pu (.bool false) (by kernel_rfl) (of_ (by kernel_rfl) (of_ (by kernel_rfl) (of_ (by kernel_rfl) (pu (.bool false) (by kernel_rfl) ?_)))))))))
       refine pu (.bool false) (by kernel_rfl) (of_ (by kernel_rfl) (of_ (by kernel_rfl) (pu (.bool false) (by kernel_rfl) (pu (.bool false) (by kernel_rfl) (seq_nil ?_)))))
       exact .inl ⟨rfl, ⟨false, ⟨rfl, rfl, rfl, rfl, rfl, rfl, trivial⟩, hI.pickL [0, 1, 6, 7] (by decide) rfl, hF⟩⟩
     ·
      refine seq_on (by kernel_rfl) (s_eqlA (b := decide (y145.1 = 7) && decide (y145.2.1 = 12)) rfl rfl (by kernel_rfl) (fun w => eq28 _ y145.1 y145.2.1 7 12 w) (fun h => absurd (a := (decide (y145.1 = 7) && decide (y145.2.1 = 12)) = true) h h70) (fun _ => ?_))
      refine pu (.bool false) (by kernel_rfl) (pu (.bool false) (by kernel_rfl) (of_ (by kernel_rfl) (of_ (by kernel_rfl) (pu (.bool false) (by kernel_rfl) (pu (.bool false) (by kernel_rfl) (of_ (by kernel_rfl) (of_ (by kernel_rfl) (pu (.bool false) (by kernel_rfl) (pu (.bool false) (by kernel_rfl) ?_)))))))))
      refine of_ (by kernel_rfl) (of_ (by kernel_rfl) (of_ (by kernel_rfl) (pu (.bool false) (by kernel_rfl) (pu (.bool false) (by kernel_rfl) (of_ (by kernel_rfl) (of_ (by kernel_rfl) (pu (.bool false) (by kernel_rfl) (pu (.bool false) (by kernel_rfl) (seq_nil ?_)))))))))
      exact .inl ⟨rfl, ⟨false, ⟨rfl, rfl, rfl, rfl, rfl, rfl, trivial⟩, hI.pickL [0, 1, 6, 7] (by decide) rfl, hF⟩⟩
    ·
     refine seq_on (by kernel_rfl) (s_eqlA (b := decide (y139.1 = 15) && decide (y139.2.1 = 23)) rfl rfl (by kernel_rfl) (fun w => eq28 _ y139.1 y139.2.1 15 23 w) (fun h => absurd (a := (decide (y139.1 = 15) && decide (y139.2.1 = 23)) = true) h h69) (fun _ => ?_))
     refine pu (.bool false) (by kernel_rfl) (pu (.bool false) (by kernel_rfl) (of_ (by kernel_rfl) (of_ (by kernel_rfl) (of_ (by kernel_rfl) (pu (.bool false) (by kernel_rfl) (pu (.bool false) (by kernel_rfl) (of_ (by kernel_rfl) (of_ (by kernel_rfl) (pu (.bool false) (by kernel_rfl) ?_)))))))))
     refine pu (.bool false) (by kernel_rfl) (of_ (by kernel_rfl) (of_ (by kernel_rfl) (pu (.bool false) (by kernel_rfl) (pu (.bool false) (by kernel_rfl) (of_ (by kernel_rfl) (of_ (by kernel_rfl) (of_ (by kernel_rfl) (pu (.bool false) (by kernel_rfl) (pu (.bool false) (by kernel_rfl) ?_)))))))))
     refine of_ (by kernel_rfl) (of_ (by kernel_rfl) (pu (.bool false) (by kernel_rfl) (pu (.bool false) (by kernel_rfl) (seq_nil ?_))))
     exact .inl ⟨rfl, ⟨false, ⟨rfl, rfl, rfl, rfl, rfl, rfl, trivial⟩, hI.pickL [0, 1, 6, 7] (by decide) rfl, hF⟩⟩
   ·
    refine seq_c (s_eqlA (b := decide (y133.1 = 4) && decide (y133.2.1 = 21)) rfl rfl (by kernel_rfl) (fun w => eq28 _ y133.1 y133.2.1 4 21 w) (fun h => absurd (a := (decide (y133.1 = 4) && decide (y133.2.1 = 21)) = true) h h68) (fun _ => ?_))
    refine pu (.bool false) (by kernel_rfl) (of_ (by kernel_rfl) (of_ (by kernel_rfl) (of_ (by kernel_rfl) (pu (.bool false) (by kernel_rfl) (pu (.bool false) (by kernel_rfl) (of_ (by kernel_rfl) (of_ (by kernel_rfl) (of_ (by kernel_rfl) (pu (.bool false) (by kernel_rfl) ?_)))))))))
    refine pu (.bool false) (by kernel_rfl) (of_ (by kernel_rfl) (of_ (by kernel_rfl) (pu (.bool false) (by kernel_rfl) (pu (.bool false) (by kernel_rfl) (of_ (by kernel_rfl) (of_ (by kernel_rfl) (pu (.bool false) (by kernel_rfl) (pu (.bool false) (by kernel_rfl) (of_ (by kernel_rfl) ?_)))))))))
    refine of_ (by kernel_rfl) (of_ (by kernel_rfl) (pu (.bool false) (by kernel_rfl) (pu (.bool false) (by kernel_rfl) (of_ (by kernel_rfl) (of_ (by kernel_rfl) (pu (.bool false) (by kernel_rfl) (pu (.bool false) (by kernel_rfl) (seq_nil ?_))))))))
    exact .inl ⟨rfl, ⟨false, ⟨rfl, rfl, rfl, rfl, rfl, rfl, trivial⟩, hI.pickL [0, 1, 6, 7] (by decide) rfl, hF⟩⟩
  ·intro ρ w hJ
   obtain ⟨v206, hag, hI, hF⟩ := hJ
   obtain ⟨ρ, rfl⟩ := hag.form; clear hag
   unfold F25j2 at hF
   refine wp_seq ?_
   have hG := hF; rcases Bool.eq_false_or_eq_true v202 with rfl | rfl
   ·
    have hF := hG; clear hG
    refine ifE hF (fun _ hF => ?_) (fun h => absurd rfl h)
    have hG := hF; rcases Bool.eq_false_or_eq_true v206 with rfl | rfl
    ·
     have hF := hG; clear hG
     refine ifE hF (fun _ hF => ?_) (fun h => absurd rfl h)
     refine rgn (by kernel_rfl) (pu (.bool true) (by kernel_rfl) (pu (.bool true) (by kernel_rfl) (puo (.bool true) ⟨(by kernel_rfl), (by kernel_rfl)⟩ (pu (.bool true) (by kernel_rfl) (pu (.bool true) (by kernel_rfl) (puo (iv y176.1) ⟨(by kernel_rfl), (by kernel_rfl)⟩ (ifE hF (fun h64 hF => ?_) (fun h64 hF => ?_))))))))
     ·
      refine seq_on (by kernel_rfl) (s_eql rfl rfl (fun _ => ?_) (fun h => absurd (a := y176.1 = 2) h64 h))
      refine pu (.bool true) (by kernel_rfl) (pu (.bool true) (by kernel_rfl) (puo (slv g186 y184.1.length c187) ⟨(by kernel_rfl), (by kernel_rfl)⟩ (seq_on (by kernel_rfl) (s_new hI [iv 5] 3 (fun b => slv (some b) 1 1) (by kernel_rfl) ?_))))
      intro b217 w hI
      refine bindE hF (fun y218 hy219 hF => ?_)
      refine ifE hF (fun h65 hF => ?_) (fun h65 hF => ?_)
      ·
       refine seq_on (by kernel_rfl) (s_callv hI 41 [slv g186 y184.1.length c187, .slice (some ⟨b217, 0, none⟩) 1 1] (.bool true) (by kernel_rfl) (Does.mono (L41 _ (g186.map fun b => ⟨b, 0, none⟩) c187 y184.1 (some ⟨b217, 0, none⟩) 1 [5] (hI.rowCells 3 rfl r189) (len_le rfl r189.big) (len_le rfl r189.cap) (hI.cells 0 (off := 0) rfl (fun j u h => by rw [Nat.zero_add]; exact h)) (Nat.le_of_ble_eq_true rfl) (Nat.le_refl _) N _ hy219) (fun v' w' h => ⟨h.1.trans (congrArg Value.bool h65), h.2⟩)) ?_)
       intro w hI
       refine pu (.bool true) (by kernel_rfl) (pu (.bool true) (by kernel_rfl) (puo (slv g198 y196.1.length c199) ⟨(by kernel_rfl), (by kernel_rfl)⟩ (seq_on (by kernel_rfl) (s_new hI [iv 9] 3 (fun b => slv (some b) 1 1) (by kernel_rfl) ?_))))
       intro b220 w hI
       refine bindE hF (fun y221 hy222 hF => ?_)
       refine ifE hF (fun h66 hF => ?_) (fun h66 hF => ?_)
       ·
        refine seq_on (by kernel_rfl) (s_callv hI 41 [slv g198 y196.1.length c199, .slice (some ⟨b220, 0, none⟩) 1 1] (.bool true) (by kernel_rfl) (Does.mono (L41 _ (g198.map fun b => ⟨b, 0, none⟩) c199 y196.1 (some ⟨b220, 0, none⟩) 1 [9] (hI.rowCells 5 rfl r201) (len_le rfl r201.big) (len_le rfl r201.cap) (hI.cells 0 (off := 0) rfl (fun j u h => by rw [Nat.zero_add]; exact h)) (Nat.le_of_ble_eq_true rfl) (Nat.le_refl _) N _ hy222) (fun v' w' h => ⟨h.1.trans (congrArg Value.bool h66), h.2⟩)) ?_)
        intro w hI
        refine pu (.bool true) (by kernel_rfl) (pu (.bool true) (by kernel_rfl) (seq_on (by kernel_rfl) (s_loadK hI 2 2 [iv y122.1, slv g124 y122.2.length c125] Try.isAgg24 Try.sizeOf24 rfl rfl rfl rfl ?_)))
        refine seq_on (by kernel_rfl) (s_new hI [iv 7, iv 4, iv 9, iv 2, iv 2, iv 0] 3 (fun b => slv (some b) 6 6) (by kernel_rfl) ?_)
        intro b223 w hI
        refine bindE hF (fun y224 hy225 hF => ?_)
        refine seq_on (by kernel_rfl) (s_callv hI 42 [.agg #[iv y122.1, slv g124 y122.2.length c125], .slice (some ⟨b223, 0, none⟩) 6 6] (iv y224) (by kernel_rfl) (L42 _ y122.1 (g124.map fun b => ⟨b, 0, none⟩) c125 y122.2 (some ⟨b223, 0, none⟩) 6 [7, 4, 9, 2, 2, 0] (hI.rowCells 4 rfl r127) (len_le rfl r127.big) (len_le rfl r127.cap) (hI.cells 0 (off := 0) rfl (fun j u h => by rw [Nat.zero_add]; exact h)) (Nat.le_of_ble_eq_true rfl) (Nat.le_refl _) N _ hy225) ?_)
        intro w hI
        refine ifE hF (fun h67 hF => ?_) (fun h67 hF => ?_)
        ·
         refine seq_on (by kernel_rfl) (s_eql rfl rfl (fun _ => ?_) (fun h => absurd (a := y224 = 53) h67 h))
         refine pu (.bool true) (by kernel_rfl) (pu (.bool true) (by kernel_rfl) (seq_nil (wp_ret ?_)))
         replace hF := Option.some.inj hF; subst hF
         exact ⟨.bool true, Ret.r1 rfl rfl, ⟨rfl, hI.below⟩⟩
        ·
         refine seq_on (by kernel_rfl) (s_eql rfl rfl (fun h => absurd (a := y224 = 53) h h67) (fun _ => ?_))
         refine pu (.bool false) (by kernel_rfl) (pu (.bool false) (by kernel_rfl) (seq_nil (wp_ret ?_)))
         replace hF := Option.some.inj hF; subst hF
         exact ⟨.bool false, Ret.r1 rfl rfl, ⟨rfl, hI.below⟩⟩
       ·
        refine seq_on (by kernel_rfl) (s_callv hI 41 [slv g198 y196.1.length c199, .slice (some ⟨b220, 0, none⟩) 1 1] (.bool false) (by kernel_rfl) (Does.mono (L41 _ (g198.map fun b => ⟨b, 0, none⟩) c199 y196.1 (some ⟨b220, 0, none⟩) 1 [9] (hI.rowCells 5 rfl r201) (len_le rfl r201.big) (len_le rfl r201.cap) (hI.cells 0 (off := 0) rfl (fun j u h => by rw [Nat.zero_add]; exact h)) (Nat.le_of_ble_eq_true rfl) (Nat.le_refl _) N _ hy222) (fun v' w' h => ⟨h.1.trans (congrArg Value.bool (Bool.eq_false_iff.2 h66)), h.2⟩)) ?_)
        intro w hI
        refine pu (.bool false) (by kernel_rfl) (pu (.bool false) (by kernel_rfl) (of_ (by kernel_rfl) (of_ (by kernel_rfl) (of_ (by kernel_rfl) (of_ (by kernel_rfl) (pu (.bool false) (by kernel_rfl) (pu (.bool false) (by kernel_rfl) (seq_nil (wp_ret ?_)))))))))
        replace hF := Option.some.inj hF; subst hF
        exact ⟨.bool false, Ret.r1 rfl rfl, ⟨rfl, hI.below⟩⟩
      ·
       refine seq_on (by kernel_rfl) (s_callv hI 41 [slv g186 y184.1.length c187, .slice (some ⟨b217, 0, none⟩) 1 1] (.bool false) (by kernel_rfl) (Does.mono (L41 _ (g186.map fun b => ⟨b, 0, none⟩) c187 y184.1 (some ⟨b217, 0, none⟩) 1 [5] (hI.rowCells 3 rfl r189) (len_le rfl r189.big) (len_le rfl r189.cap) (hI.cells 0 (off := 0) rfl (fun j u h => by rw [Nat.zero_add]; exact h)) (Nat.le_of_ble_eq_true rfl) (Nat.le_refl _) N _ hy219) (fun v' w' h => ⟨h.1.trans (congrArg Value.bool (Bool.eq_false_iff.2 h65)), h.2⟩)) ?_)
       intro w hI
       refine pu (.bool false) (by kernel_rfl) (pu (.bool false) (by kernel_rfl) (of_ (by kernel_rfl) (of_ (by kernel_rfl) (of_ (by kernel_rfl) (pu (.bool false) (by kernel_rfl) (pu (.bool false) (by kernel_rfl) (of_ (by kernel_rfl) (of_ (by kernel_rfl) (of_ (by kernel_rfl) ?_)))))))))
       refine of_ (by kernel_rfl) (pu (.bool false) (by kernel_rfl) (pu (.bool false) (by kernel_rfl) (seq_nil (wp_ret ?_))))
       replace hF := Option.some.inj hF; subst hF
       exact ⟨.bool false, Ret.r1 rfl rfl, ⟨rfl, hI.below⟩⟩
     ·
      refine seq_on (by kernel_rfl) (s_eql rfl rfl (fun h => absurd (a := y176.1 = 2) h h64) (fun _ => ?_))
      refine pu (.bool false) (by kernel_rfl) (pu (.bool false) (by kernel_rfl) (of_ (by kernel_rfl) (of_ (by kernel_rfl) (of_ (by kernel_rfl) (pu (.bool false) (by kernel_rfl) (pu (.bool false) (by kernel_rfl) (of_ (by kernel_rfl) (of_ (by kernel_rfl) (of_ (by kernel_rfl) ?_)))))))))
      refine pu (.bool false) (by kernel_rfl) (pu (.bool false) (by kernel_rfl) (of_ (by kernel_rfl) (of_ (by kernel_rfl) (of_ (by kernel_rfl) (of_ (by kernel_rfl) (pu (.bool false) (by kernel_rfl) (pu (.bool false) (by kernel_rfl) (seq_nil (wp_ret ?_)))))))))
      replace hF := Option.some.inj hF; subst hF
      exact ⟨.bool false, Ret.r1 rfl rfl, ⟨rfl, hI.below⟩⟩
    ·
     have hF := hG; clear hG
     refine ifE hF (fun h => absurd h (by decide)) (fun _ hF => ?_)
     refine rgn (by kernel_rfl) (pu (.bool true) (by kernel_rfl) (pu (.bool true) (by kernel_rfl) (puo (.bool false) ⟨(by kernel_rfl), (by kernel_rfl)⟩ (pu (.bool false) (by kernel_rfl) (pu (.bool false) (by kernel_rfl) (of_ (by kernel_rfl) (of_ (by kernel_rfl) (pu (.bool false) (by kernel_rfl) (pu (.bool false) (by kernel_rfl) ?_)))))))))
     refine of_ (by kernel_rfl) (of_ (by kernel_rfl) (of_ (by kernel_rfl) (pu (.bool false) (by kernel_rfl) (pu (.bool false) (by kernel_rfl) (of_ (by kernel_rfl) (of_ (by kernel_rfl) (of_ (by kernel_rfl) (pu (.bool false) (by kernel_rfl) (pu (.bool false) (by kernel_rfl) ?_)))))))))
     refine of_ (by kernel_rfl) (of_ (by kernel_rfl) (of_ (by kernel_rfl) (of_ (by kernel_rfl) (pu (.bool false) (by kernel_rfl) (pu (.bool false) (by kernel_rfl) (seq_nil (wp_ret ?_)))))))
     replace hF := Option.some.inj hF; subst hF
     exact ⟨.bool false, Ret.r1 rfl rfl, ⟨rfl, hI.below⟩⟩
   ·
    have hF := hG; clear hG
    refine ifE hF (fun h => absurd h (by decide)) (fun _ hF => ?_)
    have hG := hF; rcases Bool.eq_false_or_eq_true v206 with rfl | rfl
    ·
     have hF := hG; clear hG
     refine ifE hF (fun _ hF => ?_) (fun h => absurd rfl h)
     refine rgn (by kernel_rfl) (pu (.bool false) (by kernel_rfl) (pu (.bool false) (by kernel_rfl) (of_ (by kernel_rfl) (pu (.bool false) (by kernel_rfl) (pu (.bool false) (by kernel_rfl) (of_ (by kernel_rfl) (of_ (by kernel_rfl) (pu (.bool false) (by kernel_rfl) (pu (.bool false) (by kernel_rfl) ?_)))))))))
     refine of_ (by kernel_rfl) (of_ (by kernel_rfl) (of_ (by kernel_rfl) (pu (.bool false) (by kernel_rfl) (pu (.bool false) (by kernel_rfl) (of_ (by kernel_rfl) (of_ (by kernel_rfl) (of_ (by kernel_rfl) (pu (.bool false) (by kernel_rfl) (pu (.bool false) (by kernel_rfl) ?_)))))))))
     refine of_ (by kernel_rfl) (of_ (by kernel_rfl) (of_ (by kernel_rfl) (of_ (by kernel_rfl) (pu (.bool false) (by kernel_rfl) (pu (.bool false) (by kernel_rfl) (seq_nil (wp_ret ?_)))))))
     replace hF := Option.some.inj hF; subst hF
     exact ⟨.bool false, Ret.r1 rfl rfl, ⟨rfl, hI.below⟩⟩
    ·
     have hF := hG; clear hG
     refine ifE hF (fun h => absurd h (by decide)) (fun _ hF => ?_)
     refine rgn (by kernel_rfl) (pu (.bool false) (by kernel_rfl) (pu (.bool false) (by kernel_rfl) (of_ (by kernel_rfl) (pu (.bool false) (by kernel_rfl) (pu (.bool false) (by kernel_rfl) (of_ (by kernel_rfl) (of_ (by kernel_rfl) (pu (.bool false) (by kernel_rfl) (pu (.bool false) (by kernel_rfl) ?_)))))))))
     refine of_ (by kernel_rfl) (of_ (by kernel_rfl) (of_ (by kernel_rfl) (pu (.bool false) (by kernel_rfl) (pu (.bool false) (by kernel_rfl) (of_ (by kernel_rfl) (of_ (by kernel_rfl) (of_ (by kernel_rfl) (pu (.bool false) (by kernel_rfl) (pu (.bool false) (by kernel_rfl) ?_)))))))))
     refine of_ (by kernel_rfl) (of_ (by kernel_rfl) (of_ (by kernel_rfl) (of_ (by kernel_rfl) (pu (.bool false) (by kernel_rfl) (pu (.bool false) (by kernel_rfl) (seq_nil (wp_ret ?_)))))))
     replace hF := Option.some.inj hF; subst hF
     exact ⟨.bool false, Ret.r1 rfl rfl, ⟨rfl, hI.below⟩⟩


theorem L3 (w0 : World) (p0_0 : Int) (Ap0_1 : Option Addr) (cp0_1 : Nat) (lp0_1 : List Cm) (p1 : Cm) (p2 : Yl) (hCp0_1 : Cells w0 Ap0_1 (flat eCm lp0_1)) (hMp0_1 : lp0_1.length ≤ 9223372036854775807) (hKp0_1 : lp0_1.length ≤ cp0_1) (N : Nat) (r : Bool) (hF : F3 N p0_0 lp0_1 p1 p2 = some r) : Does Try.prog 3 [.agg #[.int .i64 p0_0, .slice Ap0_1 lp0_1.length cp0_1], .agg #[.int .i64 p1.fam, .int .i64 p1.hrs, .int .i64 p1.wants], .agg #[.int .i64 p2.lo, .int .i64 p2.hi, .int .i64 p2.toll]] w0 fun v w => v = .bool r ∧ Below w0.heap.size w0 w := by
 refine calls_of (n := 83) Try.func3 rfl Try.ntmps3 rfl ?_
 have hI := Inv.start w0
 unfold F3 at hF
 refine wp_seq (rgn (by kernel_rfl) (seq_c (s_boxI hI [iv p0_0, .slice Ap0_1 lp0_1.length cp0_1] rfl ?_)))
 intro b97 w hI
 refine seq_c (s_boxI hI [iv p1.fam, iv p1.hrs, iv p1.wants] rfl ?_)
 intro b98 w hI
 refine seq_c (s_boxI hI [iv p2.lo, iv p2.hi, iv p2.toll] rfl ?_)
 intro b99 w hI
 refine pu (.bool false) (by kernel_rfl) (seq_nil (wp_seq (rgn (by kernel_rfl) (seq_c (s_loadK hI 2 2 [iv p0_0, .slice Ap0_1 lp0_1.length cp0_1] Try.isAgg24 Try.sizeOf24 rfl rfl rfl rfl ?_)))))
 refine seq_c (s_loadK hI 1 3 [iv p1.fam, iv p1.hrs, iv p1.wants] Try.isAgg26 Try.sizeOf26 rfl rfl rfl rfl ?_)
 refine bindE hF (fun y107 hy108 hF => ?_)
 refine seq_c (s_call 14 [.agg #[iv p0_0, .slice Ap0_1 lp0_1.length cp0_1], .agg #[iv p1.fam, iv p1.hrs, iv p1.wants]] (by kernel_rfl) (L14 _ p0_0 Ap0_1 cp0_1 lp0_1 p1 (hCp0_1.inv0 hI) hMp0_1 hKp0_1 N _ hy108) ?_)
 rintro v w ⟨g109, c110, cl111, rfl, hN, r112⟩
 have hI := hI.join hN; clear hN
 refine pu (.tuple #[.agg #[iv y107.1, slv g109 y107.2.1.length c110], iv y107.2.2]) (by kernel_rfl) (pu (.agg #[iv y107.1, slv g109 y107.2.1.length c110]) (by kernel_rfl) (pu (iv y107.2.2) (by kernel_rfl) (seq_c (s_allocI hI [iv 0, .slice none 0 0] Try.zeroValue24 rfl ?_))))
 intro b113 w hI
 refine seq_c (s_store hI 0 2 [iv y107.1, slv g109 y107.2.1.length c110] Try.sizeOf24 rfl rfl rfl rfl rfl (Nat.le_of_ble_eq_true rfl) ?_)
 intro w hI
 refine pu (iv y107.2.2) (by kernel_rfl) (seq_nil (wp_seq (rgn (by kernel_rfl) (seq_c (s_loadK hI 4 2 [iv p0_0, .slice Ap0_1 lp0_1.length cp0_1] Try.isAgg24 Try.sizeOf24 rfl rfl rfl rfl ?_)))))
 refine seq_c (s_loadK hI 3 3 [iv p1.fam, iv p1.hrs, iv p1.wants] Try.isAgg26 Try.sizeOf26 rfl rfl rfl rfl ?_)
 refine bindE hF (fun y121 hy122 hF => ?_)
 refine seq_c (s_call 15 [.agg #[iv p0_0, .slice Ap0_1 lp0_1.length cp0_1], .agg #[iv p1.fam, iv p1.hrs, iv p1.wants]] (by kernel_rfl) (L15 _ p0_0 Ap0_1 cp0_1 lp0_1 p1 (hCp0_1.inv0 hI) hMp0_1 hKp0_1 N _ hy122) ?_)
 rintro v w ⟨g123, c124, cl125, rfl, hN, r126⟩
 have hI := hI.join hN; clear hN
 refine pu (.tuple #[.agg #[iv y121.1, slv g123 y121.2.1.length c124], iv y121.2.2]) (by kernel_rfl) (pu (.agg #[iv y121.1, slv g123 y121.2.1.length c124]) (by kernel_rfl) (pu (iv y121.2.2) (by kernel_rfl) (seq_c (s_allocI hI [iv 0, .slice none 0 0] Try.zeroValue24 rfl ?_))))
 intro b127 w hI
 refine seq_c (s_store hI 0 2 [iv y121.1, slv g123 y121.2.1.length c124] Try.sizeOf24 rfl rfl rfl rfl rfl (Nat.le_of_ble_eq_true rfl) ?_)
 intro w hI
 refine pu (iv y121.2.2) (by kernel_rfl) (seq_nil (wp_seq (rgn (by kernel_rfl) (seq_c (s_loadK hI 6 2 [iv p0_0, .slice Ap0_1 lp0_1.length cp0_1] Try.isAgg24 Try.sizeOf24 rfl rfl rfl rfl ?_)))))
 refine pu (.pointer (some ⟨b98, 0, none⟩)) (by kernel_rfl) (seq_c (s_load1 hI 5 (iv p1.fam) Try.isAgg3 rfl rfl rfl ?_))
 refine bindE hF (fun y135 hy136 hF => ?_)
 refine seq_c (s_call 16 [.agg #[iv p0_0, .slice Ap0_1 lp0_1.length cp0_1], iv p1.fam] (by kernel_rfl) (L16 _ p0_0 Ap0_1 cp0_1 lp0_1 p1.fam (hCp0_1.inv0 hI) hMp0_1 hKp0_1 N _ hy136) ?_)
 rintro v w ⟨g137, c138, cl139, rfl, hN, r140⟩
 have hI := hI.join hN; clear hN
 refine pu (.tuple #[.agg #[iv y135.1, slv g137 y135.2.1.length c138], iv y135.2.2]) (by kernel_rfl) (pu (.agg #[iv y135.1, slv g137 y135.2.1.length c138]) (by kernel_rfl) (pu (iv y135.2.2) (by kernel_rfl) (seq_c (s_allocI hI [iv 0, .slice none 0 0] Try.zeroValue24 rfl ?_))))
 intro b141 w hI
 refine seq_c (s_store hI 0 2 [iv y135.1, slv g137 y135.2.1.length c138] Try.sizeOf24 rfl rfl rfl rfl rfl (Nat.le_of_ble_eq_true rfl) ?_)
 intro w hI
 refine pu (iv y135.2.2) (by kernel_rfl) (seq_nil (wp_seq (rgn (by kernel_rfl) (seq_c (s_loadK hI 8 2 [iv p0_0, .slice Ap0_1 lp0_1.length cp0_1] Try.isAgg24 Try.sizeOf24 rfl rfl rfl rfl ?_)))))
 refine pu (.pointer (some ⟨b98, 0, none⟩)) (by kernel_rfl) (seq_c (s_load1 hI 7 (iv p1.fam) Try.isAgg3 rfl rfl rfl ?_))
 refine bindE hF (fun y149 hy150 hF => ?_)
 refine seq_c (s_call 17 [.agg #[iv p0_0, .slice Ap0_1 lp0_1.length cp0_1], iv p1.fam] (by kernel_rfl) (L17 _ p0_0 Ap0_1 cp0_1 lp0_1 p1.fam (hCp0_1.inv0 hI) hMp0_1 hKp0_1 N _ hy150) ?_)
 rintro v w ⟨g151, c152, cl153, rfl, hN, r154⟩
 have hI := hI.join hN; clear hN
 refine pu (.tuple #[.agg #[iv y149.1, slv g151 y149.2.1.length c152], iv y149.2.2]) (by kernel_rfl) (pu (.agg #[iv y149.1, slv g151 y149.2.1.length c152]) (by kernel_rfl) (pu (iv y149.2.2) (by kernel_rfl) (seq_c (s_allocI hI [iv 0, .slice none 0 0] Try.zeroValue24 rfl ?_))))
 intro b155 w hI
 refine seq_c (s_store hI 0 2 [iv y149.1, slv g151 y149.2.1.length c152] Try.sizeOf24 rfl rfl rfl rfl rfl (Nat.le_of_ble_eq_true rfl) ?_)
 intro w hI
 refine pu (iv y149.2.2) (by kernel_rfl) (seq_nil (wp_seq (bindE hF (fun y175 hy176 hF => ?_))))
 refine ifE hF (fun h22 hF => ?_) (fun h22 hF => ?_)
 ·
  refine ifE hF (fun h23 hF => ?_) (fun h23 hF => ?_)
  ·
   refine bindE hF (fun y177 hy178 hF => ?_)
   refine ifE hF (fun h24 hF => ?_) (fun h24 hF => ?_)
   ·
    refine ifE hF (fun h25 hF => ?_) (fun h25 hF => ?_)
    ·
     refine bindE hF (fun y179 hy180 hF => ?_)
     refine bindE hF (fun y181 hy182 hF => ?_)
     refine ifE hF (fun h26 hF => ?_) (fun h26 hF => ?_)
     ·
      refine bindE hF (fun y183 hy184 hF => ?_)
      refine bindE hF (fun y185 hy186 hF => ?_)
      refine ifE hF (fun h27 hF => ?_) (fun h27 hF => ?_)
      ·
       refine bindE hF (fun y187 hy188 hF => ?_)
       refine bindE hF (fun y189 hy190 hF => ?_)
       refine ifE hF (fun h28 hF => ?_) (fun h28 hF => ?_)
       ·
        refine bindE hF (fun y191 hy192 hF => ?_)
        refine wp_drawn2 hI [0, 1, 2, 3, 4, 5, 6, 7, 8, 9, 10] (by decide) rfl (by kernel_rfl) (by kernel_rfl) ?_
        intro hsub
        refine al_light 0 (.agg #[iv y107.1, slv g109 y107.2.1.length c110]) hsub rfl (by kernel_rfl) (fun w hI => s_loadK hI 6 2 [iv y107.1, slv g109 y107.2.1.length c110] Try.isAgg24 Try.sizeOf24 rfl rfl rfl rfl ⟨rfl, Below.refl _ _⟩) ?_
        refine al_light 1 (.agg #[iv y121.1, slv g123 y121.2.1.length c124]) hsub rfl (by kernel_rfl) (fun w hI => s_loadK hI 4 2 [iv y121.1, slv g123 y121.2.1.length c124] Try.isAgg24 Try.sizeOf24 rfl rfl rfl rfl ⟨rfl, Below.refl _ _⟩) ?_
        refine al_light 2 (.bool true) hsub rfl (by kernel_rfl) (fun w hI => s_call 18 [.agg #[iv y107.1, slv g109 y107.2.1.length c110], .agg #[iv y121.1, slv g123 y121.2.1.length c124]] (by kernel_rfl) (Does.mono (L18 _ y107.1 (g109.map fun b => ⟨b, 0, none⟩) c110 y107.2.1 y121.1 (g123.map fun b => ⟨b, 0, none⟩) c124 y121.2.1 (hI.rowCells 7 rfl r112) (len_le rfl r112.big) (len_le rfl r112.cap) (hI.rowCells 5 rfl r126) (len_le rfl r126.big) (len_le rfl r126.cap) N _ hy176) (fun v' w' h => ⟨h.1.trans (congrArg Value.bool h22), h.2⟩)) (fun v' w' h => h)) ?_
        refine alp 3 (.bool true) hsub rfl (by kernel_rfl) (fun _ => (by kernel_rfl)) ?_
        refine al_on 4 (iv y107.2.2) hsub rfl (by kernel_rfl) (by kernel_rfl) (fun w hI => s_pure (iv y107.2.2) (by kernel_rfl) ⟨rfl, Below.refl _ _⟩) ?_
        refine al_on 5 (iv y121.2.2) hsub rfl (by kernel_rfl) (by kernel_rfl) (fun w hI => s_pure (iv y121.2.2) (by kernel_rfl) ⟨rfl, Below.refl _ _⟩) ?_
        refine al_on 6 (.bool true) hsub rfl (by kernel_rfl) (by kernel_rfl) (fun w hI => s_eql rfl rfl (fun _ => ⟨rfl, Below.refl _ _⟩) (fun h => absurd (a := y107.2.2 = y121.2.2) h23 h)) ?_
        refine alp 7 (.bool true) hsub rfl (by kernel_rfl) (fun _ => (by kernel_rfl)) ?_
        refine alp 8 (.bool true) hsub rfl (by kernel_rfl) (fun _ => (by kernel_rfl)) ?_
        refine al_on 9 (.agg #[iv y135.1, slv g137 y135.2.1.length c138]) hsub rfl (by kernel_rfl) (by kernel_rfl) (fun w hI => s_loadK hI 2 2 [iv y135.1, slv g137 y135.2.1.length c138] Try.isAgg24 Try.sizeOf24 rfl rfl rfl rfl ⟨rfl, Below.refl _ _⟩) ?_
        refine al_on 10 (.agg #[iv y149.1, slv g151 y149.2.1.length c152]) hsub rfl (by kernel_rfl) (by kernel_rfl) (fun w hI => s_loadK hI 0 2 [iv y149.1, slv g151 y149.2.1.length c152] Try.isAgg24 Try.sizeOf24 rfl rfl rfl rfl ⟨rfl, Below.refl _ _⟩) ?_
        refine al_on 11 (.bool true) hsub rfl (by kernel_rfl) (by kernel_rfl) (fun w hI => s_call 18 [.agg #[iv y135.1, slv g137 y135.2.1.length c138], .agg #[iv y149.1, slv g151 y149.2.1.length c152]] (by kernel_rfl) (Does.mono (L18 _ y135.1 (g137.map fun b => ⟨b, 0, none⟩) c138 y135.2.1 y149.1 (g151.map fun b => ⟨b, 0, none⟩) c152 y149.2.1 (hI.rowCells 3 rfl r140) (len_le rfl r140.big) (len_le rfl r140.cap) (hI.rowCells 1 rfl r154) (len_le rfl r154.big) (len_le rfl r154.cap) N _ hy178) (fun v' w' h => ⟨h.1.trans (congrArg Value.bool h24), h.2⟩)) (fun v' w' h => h)) ?_
        refine alp 12 (.bool true) hsub rfl (by kernel_rfl) (fun _ => (by kernel_rfl)) ?_
        refine alp 13 (.bool true) hsub rfl (by kernel_rfl) (fun _ => (by kernel_rfl)) ?_
        refine al_on 14 (iv y135.2.2) hsub rfl (by kernel_rfl) (by kernel_rfl) (fun w hI => s_pure (iv y135.2.2) (by kernel_rfl) ⟨rfl, Below.refl _ _⟩) ?_
        refine al_on 15 (iv y149.2.2) hsub rfl (by kernel_rfl) (by kernel_rfl) (fun w hI => s_pure (iv y149.2.2) (by kernel_rfl) ⟨rfl, Below.refl _ _⟩) ?_
        refine al_on 16 (.bool true) hsub rfl (by kernel_rfl) (by kernel_rfl) (fun w hI => s_eql rfl rfl (fun _ => ⟨rfl, Below.refl _ _⟩) (fun h => absurd (a := y135.2.2 = y149.2.2) h25 h)) ?_
        refine alp 17 (.bool true) hsub rfl (by kernel_rfl) (fun _ => (by kernel_rfl)) ?_
        refine alp 18 (.bool true) hsub rfl (by kernel_rfl) (fun _ => (by kernel_rfl)) ?_
        refine al_on 19 (.agg #[iv p2.lo, iv p2.hi, iv p2.toll]) hsub rfl (by kernel_rfl) (by kernel_rfl) (fun w hI => s_loadK hI 8 3 [iv p2.lo, iv p2.hi, iv p2.toll] Try.isAgg30 Try.sizeOf30 rfl rfl rfl rfl ⟨rfl, Below.refl _ _⟩) ?_
        refine al_on 20 (iv y179) hsub rfl (by kernel_rfl) (by kernel_rfl) (fun w hI => s_call 19 [.agg #[iv p2.lo, iv p2.hi, iv p2.toll]] (by kernel_rfl) (L19 _ p2 _ hy180) (fun v' w' h => h)) ?_
        refine al_on 21 (.agg #[iv p2.lo, iv p2.hi, iv p2.toll]) hsub rfl (by kernel_rfl) (by kernel_rfl) (fun w hI => s_loadK hI 8 3 [iv p2.lo, iv p2.hi, iv p2.toll] Try.isAgg30 Try.sizeOf30 rfl rfl rfl rfl ⟨rfl, Below.refl _ _⟩) ?_
        refine al_on 22 (iv y181) hsub rfl (by kernel_rfl) (by kernel_rfl) (fun w hI => s_call 20 [.agg #[iv p2.lo, iv p2.hi, iv p2.toll]] (by kernel_rfl) (L20 _ p2 _ hy182) (fun v' w' h => h)) ?_
        refine al_on 23 (.bool true) hsub rfl (by kernel_rfl) (by kernel_rfl) (fun w hI => s_eql rfl rfl (fun _ => ⟨rfl, Below.refl _ _⟩) (fun h => absurd (a := y179 = y181) h26 h)) ?_
        refine alp 24 (.bool true) hsub rfl (by kernel_rfl) (fun _ => (by kernel_rfl)) ?_
        refine alp 25 (.bool true) hsub rfl (by kernel_rfl) (fun _ => (by kernel_rfl)) ?_
        refine al_on 26 (.agg #[iv p1.fam, iv p1.hrs, iv p1.wants]) hsub rfl (by kernel_rfl) (by kernel_rfl) (fun w hI => s_loadK hI 9 3 [iv p1.fam, iv p1.hrs, iv p1.wants] Try.isAgg26 Try.sizeOf26 rfl rfl rfl rfl ⟨rfl, Below.refl _ _⟩) ?_
        refine al_on 27 (iv y183) hsub rfl (by kernel_rfl) (by kernel_rfl) (fun w hI => s_call 21 [.agg #[iv p1.fam, iv p1.hrs, iv p1.wants]] (by kernel_rfl) (L21 _ p1 _ hy184) (fun v' w' h => h)) ?_
        refine al_on 28 (.agg #[iv p1.fam, iv p1.hrs, iv p1.wants]) hsub rfl (by kernel_rfl) (by kernel_rfl) (fun w hI => s_loadK hI 9 3 [iv p1.fam, iv p1.hrs, iv p1.wants] Try.isAgg26 Try.sizeOf26 rfl rfl rfl rfl ⟨rfl, Below.refl _ _⟩) ?_
        refine al_on 29 (iv y185) hsub rfl (by kernel_rfl) (by kernel_rfl) (fun w hI => s_call 22 [.agg #[iv p1.fam, iv p1.hrs, iv p1.wants]] (by kernel_rfl) (L22 _ p1 _ hy186) (fun v' w' h => h)) ?_
        refine al_on 30 (.bool true) hsub rfl (by kernel_rfl) (by kernel_rfl) (fun w hI => s_eql rfl rfl (fun _ => ⟨rfl, Below.refl _ _⟩) (fun h => absurd (a := y183 = y185) h27 h)) ?_
        refine alp 31 (.bool true) hsub rfl (by kernel_rfl) (fun _ => (by kernel_rfl)) ?_
        refine alp 32 (.bool true) hsub rfl (by kernel_rfl) (fun _ => (by kernel_rfl)) ?_
        refine al_on 33 (.agg #[iv p0_0, .slice Ap0_1 lp0_1.length cp0_1]) hsub rfl (by kernel_rfl) (by kernel_rfl) (fun w hI => s_loadK hI 10 2 [iv p0_0, .slice Ap0_1 lp0_1.length cp0_1] Try.isAgg24 Try.sizeOf24 rfl rfl rfl rfl ⟨rfl, Below.refl _ _⟩) ?_
        refine al_on 34 (iv y187) hsub rfl (by kernel_rfl) (by kernel_rfl) (fun w hI => s_call 23 [.agg #[iv p0_0, .slice Ap0_1 lp0_1.length cp0_1]] (by kernel_rfl) (L23 _ p0_0 Ap0_1 cp0_1 lp0_1 (hCp0_1.inv0 hI) hMp0_1 hKp0_1 N _ hy188) (fun v' w' h => h)) ?_
        refine al_on 35 (.agg #[iv p0_0, .slice Ap0_1 lp0_1.length cp0_1]) hsub rfl (by kernel_rfl) (by kernel_rfl) (fun w hI => s_loadK hI 10 2 [iv p0_0, .slice Ap0_1 lp0_1.length cp0_1] Try.isAgg24 Try.sizeOf24 rfl rfl rfl rfl ⟨rfl, Below.refl _ _⟩) ?_
        refine al_on 36 (iv y189) hsub rfl (by kernel_rfl) (by kernel_rfl) (fun w hI => s_call 24 [.agg #[iv p0_0, .slice Ap0_1 lp0_1.length cp0_1]] (by kernel_rfl) (L24 _ p0_0 Ap0_1 cp0_1 lp0_1 (hCp0_1.inv0 hI) hMp0_1 hKp0_1 N _ hy190) (fun v' w' h => h)) ?_
        refine al_on 37 (.bool true) hsub rfl (by kernel_rfl) (by kernel_rfl) (fun w hI => s_eql rfl rfl (fun _ => ⟨rfl, Below.refl _ _⟩) (fun h => absurd (a := y187 = y189) h28 h)) ?_
        refine alp 38 (.bool true) hsub rfl (by kernel_rfl) (fun _ => (by kernel_rfl)) ?_
        refine alp 39 (.bool true) hsub rfl (by kernel_rfl) (fun _ => (by kernel_rfl)) ?_
        refine al_on 40 (.bool y191) hsub rfl (by kernel_rfl) (by kernel_rfl) (fun w hI => s_call 25 [] (by kernel_rfl) (L25 _ N _ hy192) (fun v' w' h => h)) ?_
        refine alp 41 (.bool y191) hsub rfl (by kernel_rfl) (fun _ => (by kernel_rfl)) ?_
        refine alp 42 (.bool y191) hsub rfl (by kernel_rfl) (fun _ => (by kernel_rfl)) ?_
        refine any_end (by kernel_rfl) (fun w hI => ?_)
        refine wp_ret ?_
        replace hF := Option.some.inj hF; subst hF
        exact ⟨.bool y191, Ret.r1 rfl rfl, ⟨rfl, hI.below⟩⟩
       ·
        refine wp_drawn2 hI [0, 1, 2, 3, 4, 5, 6, 7, 8, 9, 10] (by decide) rfl (by kernel_rfl) (by kernel_rfl) ?_
        intro hsub
        refine al_light 0 (.agg #[iv y107.1, slv g109 y107.2.1.length c110]) hsub rfl (by kernel_rfl) (fun w hI => s_loadK hI 6 2 [iv y107.1, slv g109 y107.2.1.length c110] Try.isAgg24 Try.sizeOf24 rfl rfl rfl rfl ⟨rfl, Below.refl _ _⟩) ?_
        refine al_light 1 (.agg #[iv y121.1, slv g123 y121.2.1.length c124]) hsub rfl (by kernel_rfl) (fun w hI => s_loadK hI 4 2 [iv y121.1, slv g123 y121.2.1.length c124] Try.isAgg24 Try.sizeOf24 rfl rfl rfl rfl ⟨rfl, Below.refl _ _⟩) ?_
        refine al_light 2 (.bool true) hsub rfl (by kernel_rfl) (fun w hI => s_call 18 [.agg #[iv y107.1, slv g109 y107.2.1.length c110], .agg #[iv y121.1, slv g123 y121.2.1.length c124]] (by kernel_rfl) (Does.mono (L18 _ y107.1 (g109.map fun b => ⟨b, 0, none⟩) c110 y107.2.1 y121.1 (g123.map fun b => ⟨b, 0, none⟩) c124 y121.2.1 (hI.rowCells 7 rfl r112) (len_le rfl r112.big) (len_le rfl r112.cap) (hI.rowCells 5 rfl r126) (len_le rfl r126.big) (len_le rfl r126.cap) N _ hy176) (fun v' w' h => ⟨h.1.trans (congrArg Value.bool h22), h.2⟩)) (fun v' w' h => h)) ?_
        refine alp 3 (.bool true) hsub rfl (by kernel_rfl) (fun _ => (by kernel_rfl)) ?_
        refine al_on 4 (iv y107.2.2) hsub rfl (by kernel_rfl) (by kernel_rfl) (fun w hI => s_pure (iv y107.2.2) (by kernel_rfl) ⟨rfl, Below.refl _ _⟩) ?_
        refine al_on 5 (iv y121.2.2) hsub rfl (by kernel_rfl) (by kernel_rfl) (fun w hI => s_pure (iv y121.2.2) (by kernel_rfl) ⟨rfl, Below.refl _ _⟩) ?_
        refine al_on 6 (.bool true) hsub rfl (by kernel_rfl) (by kernel_rfl) (fun w hI => s_eql rfl rfl (fun _ => ⟨rfl, Below.refl _ _⟩) (fun h => absurd (a := y107.2.2 = y121.2.2) h23 h)) ?_
        refine alp 7 (.bool true) hsub rfl (by kernel_rfl) (fun _ => (by kernel_rfl)) ?_
        refine alp 8 (.bool true) hsub rfl (by kernel_rfl) (fun _ => (by kernel_rfl)) ?_
        refine al_on 9 (.agg #[iv y135.1, slv g137 y135.2.1.length c138]) hsub rfl (by kernel_rfl) (by kernel_rfl) (fun w hI => s_loadK hI 2 2 [iv y135.1, slv g137 y135.2.1.length c138] Try.isAgg24 Try.sizeOf24 rfl rfl rfl rfl ⟨rfl, Below.refl _ _⟩) ?_
        refine al_on 10 (.agg #[iv y149.1, slv g151 y149.2.1.length c152]) hsub rfl (by kernel_rfl) (by kernel_rfl) (fun w hI => s_loadK hI 0 2 [iv y149.1, slv g151 y149.2.1.length c152] Try.isAgg24 Try.sizeOf24 rfl rfl rfl rfl ⟨rfl, Below.refl _ _⟩) ?_
        refine al_on 11 (.bool true) hsub rfl (by kernel_rfl) (by kernel_rfl) (fun w hI => s_call 18 [.agg #[iv y135.1, slv g137 y135.2.1.length c138], .agg #[iv y149.1, slv g151 y149.2.1.length c152]] (by kernel_rfl) (Does.mono (L18 _ y135.1 (g137.map fun b => ⟨b, 0, none⟩) c138 y135.2.1 y149.1 (g151.map fun b => ⟨b, 0, none⟩) c152 y149.2.1 (hI.rowCells 3 rfl r140) (len_le rfl r140.big) (len_le rfl r140.cap) (hI.rowCells 1 rfl r154) (len_le rfl r154.big) (len_le rfl r154.cap) N _ hy178) (fun v' w' h => ⟨h.1.trans (congrArg Value.bool h24), h.2⟩)) (fun v' w' h => h)) ?_
        refine alp 12 (.bool true) hsub rfl (by kernel_rfl) (fun _ => (by kernel_rfl)) ?_
        refine alp 13 (.bool true) hsub rfl (by kernel_rfl) (fun _ => (by kernel_rfl)) ?_
        refine al_on 14 (iv y135.2.2) hsub rfl (by kernel_rfl) (by kernel_rfl) (fun w hI => s_pure (iv y135.2.2) (by kernel_rfl) ⟨rfl, Below.refl _ _⟩) ?_
        refine al_on 15 (iv y149.2.2) hsub rfl (by kernel_rfl) (by kernel_rfl) (fun w hI => s_pure (iv y149.2.2) (by kernel_rfl) ⟨rfl, Below.refl _ _⟩) ?_
        refine al_on 16 (.bool true) hsub rfl (by kernel_rfl) (by kernel_rfl) (fun w hI => s_eql rfl rfl (fun _ => ⟨rfl, Below.refl _ _⟩) (fun h => absurd (a := y135.2.2 = y149.2.2) h25 h)) ?_
        refine alp 17 (.bool true) hsub rfl (by kernel_rfl) (fun _ => (by kernel_rfl)) ?_
        refine alp 18 (.bool true) hsub rfl (by kernel_rfl) (fun _ => (by kernel_rfl)) ?_
        refine al_on 19 (.agg #[iv p2.lo, iv p2.hi, iv p2.toll]) hsub rfl (by kernel_rfl) (by kernel_rfl) (fun w hI => s_loadK hI 8 3 [iv p2.lo, iv p2.hi, iv p2.toll] Try.isAgg30 Try.sizeOf30 rfl rfl rfl rfl ⟨rfl, Below.refl _ _⟩) ?_
        refine al_on 20 (iv y179) hsub rfl (by kernel_rfl) (by kernel_rfl) (fun w hI => s_call 19 [.agg #[iv p2.lo, iv p2.hi, iv p2.toll]] (by kernel_rfl) (L19 _ p2 _ hy180) (fun v' w' h => h)) ?_
        refine al_on 21 (.agg #[iv p2.lo, iv p2.hi, iv p2.toll]) hsub rfl (by kernel_rfl) (by kernel_rfl) (fun w hI => s_loadK hI 8 3 [iv p2.lo, iv p2.hi, iv p2.toll] Try.isAgg30 Try.sizeOf30 rfl rfl rfl rfl ⟨rfl, Below.refl _ _⟩) ?_
        refine al_on 22 (iv y181) hsub rfl (by kernel_rfl) (by kernel_rfl) (fun w hI => s_call 20 [.agg #[iv p2.lo, iv p2.hi, iv p2.toll]] (by kernel_rfl) (L20 _ p2 _ hy182) (fun v' w' h => h)) ?_
        refine al_on 23 (.bool true) hsub rfl (by kernel_rfl) (by kernel_rfl) (fun w hI => s_eql rfl rfl (fun _ => ⟨rfl, Below.refl _ _⟩) (fun h => absurd (a := y179 = y181) h26 h)) ?_
        refine alp 24 (.bool true) hsub rfl (by kernel_rfl) (fun _ => (by kernel_rfl)) ?_
        refine alp 25 (.bool true) hsub rfl (by kernel_rfl) (fun _ => (by kernel_rfl)) ?_
        refine al_on 26 (.agg #[iv p1.fam, iv p1.hrs, iv p1.wants]) hsub rfl (by kernel_rfl) (by kernel_rfl) (fun w hI => s_loadK hI 9 3 [iv p1.fam, iv p1.hrs, iv p1.wants] Try.isAgg26 Try.sizeOf26 rfl rfl rfl rfl ⟨rfl, Below.refl _ _⟩) ?_
        refine al_on 27 (iv y183) hsub rfl (by kernel_rfl) (by kernel_rfl) (fun w hI => s_call 21 [.agg #[iv p1.fam, iv p1.hrs, iv p1.wants]] (by kernel_rfl) (L21 _ p1 _ hy184) (fun v' w' h => h)) ?_
        refine al_on 28 (.agg #[iv p1.fam, iv p1.hrs, iv p1.wants]) hsub rfl (by kernel_rfl) (by kernel_rfl) (fun w hI => s_loadK hI 9 3 [iv p1.fam, iv p1.hrs, iv p1.wants] Try.isAgg26 Try.sizeOf26 rfl rfl rfl rfl ⟨rfl, Below.refl _ _⟩) ?_
        refine al_on 29 (iv y185) hsub rfl (by kernel_rfl) (by kernel_rfl) (fun w hI => s_call 22 [.agg #[iv p1.fam, iv p1.hrs, iv p1.wants]] (by kernel_rfl) (L22 _ p1 _ hy186) (fun v' w' h => h)) ?_
        refine al_on 30 (.bool true) hsub rfl (by kernel_rfl) (by kernel_rfl) (fun w hI => s_eql rfl rfl (fun _ => ⟨rfl, Below.refl _ _⟩) (fun h => absurd (a := y183 = y185) h27 h)) ?_
        refine alp 31 (.bool true) hsub rfl (by kernel_rfl) (fun _ => (by kernel_rfl)) ?_
        refine alp 32 (.bool true) hsub rfl (by kernel_rfl) (fun _ => (by kernel_rfl)) ?_
        refine al_on 33 (.agg #[iv p0_0, .slice Ap0_1 lp0_1.length cp0_1]) hsub rfl (by kernel_rfl) (by kernel_rfl) (fun w hI => s_loadK hI 10 2 [iv p0_0, .slice Ap0_1 lp0_1.length cp0_1] Try.isAgg24 Try.sizeOf24 rfl rfl rfl rfl ⟨rfl, Below.refl _ _⟩) ?_
        refine al_on 34 (iv y187) hsub rfl (by kernel_rfl) (by kernel_rfl) (fun w hI => s_call 23 [.agg #[iv p0_0, .slice Ap0_1 lp0_1.length cp0_1]] (by kernel_rfl) (L23 _ p0_0 Ap0_1 cp0_1 lp0_1 (hCp0_1.inv0 hI) hMp0_1 hKp0_1 N _ hy188) (fun v' w' h => h)) ?_
        refine al_on 35 (.agg #[iv p0_0, .slice Ap0_1 lp0_1.length cp0_1]) hsub rfl (by kernel_rfl) (by kernel_rfl) (fun w hI => s_loadK hI 10 2 [iv p0_0, .slice Ap0_1 lp0_1.length cp0_1] Try.isAgg24 Try.sizeOf24 rfl rfl rfl rfl ⟨rfl, Below.refl _ _⟩) ?_
        refine al_on 36 (iv y189) hsub rfl (by kernel_rfl) (by kernel_rfl) (fun w hI => s_call 24 [.agg #[iv p0_0, .slice Ap0_1 lp0_1.length cp0_1]] (by kernel_rfl) (L24 _ p0_0 Ap0_1 cp0_1 lp0_1 (hCp0_1.inv0 hI) hMp0_1 hKp0_1 N _ hy190) (fun v' w' h => h)) ?_
        refine al_on 37 (.bool false) hsub rfl (by kernel_rfl) (by kernel_rfl) (fun w hI => s_eql rfl rfl (fun h => absurd (a := y187 = y189) h h28) (fun _ => ⟨rfl, Below.refl _ _⟩)) ?_
        refine alp 38 (.bool false) hsub rfl (by kernel_rfl) (fun _ => (by kernel_rfl)) ?_
        refine alp 39 (.bool false) hsub rfl (by kernel_rfl) (fun _ => (by kernel_rfl)) ?_
        refine al_off 40 hsub rfl (by kernel_rfl) (by kernel_rfl) ?_
        refine alp 41 (.bool false) hsub rfl (by kernel_rfl) (fun _ => (by kernel_rfl)) ?_
        refine alp 42 (.bool false) hsub rfl (by kernel_rfl) (fun _ => (by kernel_rfl)) ?_
        refine any_end (by kernel_rfl) (fun w hI => ?_)
        refine wp_ret ?_
        replace hF := Option.some.inj hF; subst hF
        exact ⟨.bool false, Ret.r1 rfl rfl, ⟨rfl, hI.below⟩⟩
      ·
       refine wp_drawn2 hI [0, 1, 2, 3, 4, 5, 6, 7, 8, 9, 10] (by decide) rfl (by kernel_rfl) (by kernel_rfl) ?_
       intro hsub
       refine al_light 0 (.agg #[iv y107.1, slv g109 y107.2.1.length c110]) hsub rfl (by kernel_rfl) (fun w hI => s_loadK hI 6 2 [iv y107.1, slv g109 y107.2.1.length c110] Try.isAgg24 Try.sizeOf24 rfl rfl rfl rfl ⟨rfl, Below.refl _ _⟩) ?_
       refine al_light 1 (.agg #[iv y121.1, slv g123 y121.2.1.length c124]) hsub rfl (by kernel_rfl) (fun w hI => s_loadK hI 4 2 [iv y121.1, slv g123 y121.2.1.length c124] Try.isAgg24 Try.sizeOf24 rfl rfl rfl rfl ⟨rfl, Below.refl _ _⟩) ?_
       refine al_light 2 (.bool true) hsub rfl (by kernel_rfl) (fun w hI => s_call 18 [.agg #[iv y107.1, slv g109 y107.2.1.length c110], .agg #[iv y121.1, slv g123 y121.2.1.length c124]] (by kernel_rfl) (Does.mono (L18 _ y107.1 (g109.map fun b => ⟨b, 0, none⟩) c110 y107.2.1 y121.1 (g123.map fun b => ⟨b, 0, none⟩) c124 y121.2.1 (hI.rowCells 7 rfl r112) (len_le rfl r112.big) (len_le rfl r112.cap) (hI.rowCells 5 rfl r126) (len_le rfl r126.big) (len_le rfl r126.cap) N _ hy176) (fun v' w' h => ⟨h.1.trans (congrArg Value.bool h22), h.2⟩)) (fun v' w' h => h)) ?_
       refine alp 3 (.bool true) hsub rfl (by kernel_rfl) (fun _ => (by kernel_rfl)) ?_
       refine al_on 4 (iv y107.2.2) hsub rfl (by kernel_rfl) (by kernel_rfl) (fun w hI => s_pure (iv y107.2.2) (by kernel_rfl) ⟨rfl, Below.refl _ _⟩) ?_
       refine al_on 5 (iv y121.2.2) hsub rfl (by kernel_rfl) (by kernel_rfl) (fun w hI => s_pure (iv y121.2.2) (by kernel_rfl) ⟨rfl, Below.refl _ _⟩) ?_
       refine al_on 6 (.bool true) hsub rfl (by kernel_rfl) (by kernel_rfl) (fun w hI => s_eql rfl rfl (fun _ => ⟨rfl, Below.refl _ _⟩) (fun h => absurd (a := y107.2.2 = y121.2.2) h23 h)) ?_
       refine alp 7 (.bool true) hsub rfl (by kernel_rfl) (fun _ => (by kernel_rfl)) ?_
       refine alp 8 (.bool true) hsub rfl (by kernel_rfl) (fun _ => (by kernel_rfl)) ?_
       refine al_on 9 (.agg #[iv y135.1, slv g137 y135.2.1.length c138]) hsub rfl (by kernel_rfl) (by kernel_rfl) (fun w hI => s_loadK hI 2 2 [iv y135.1, slv g137 y135.2.1.length c138] Try.isAgg24 Try.sizeOf24 rfl rfl rfl rfl ⟨rfl, Below.refl _ _⟩) ?_
       refine al_on 10 (.agg #[iv y149.1, slv g151 y149.2.1.length c152]) hsub rfl (by kernel_rfl) (by kernel_rfl) (fun w hI => s_loadK hI 0 2 [iv y149.1, slv g151 y149.2.1.length c152] Try.isAgg24 Try.sizeOf24 rfl rfl rfl rfl ⟨rfl, Below.refl _ _⟩) ?_
       refine al_on 11 (.bool true) hsub rfl (by kernel_rfl) (by kernel_rfl) (fun w hI => s_call 18 [.agg #[iv y135.1, slv g137 y135.2.1.length c138], .agg #[iv y149.1, slv g151 y149.2.1.length c152]] (by kernel_rfl) (Does.mono (L18 _ y135.1 (g137.map fun b => ⟨b, 0, none⟩) c138 y135.2.1 y149.1 (g151.map fun b => ⟨b, 0, none⟩) c152 y149.2.1 (hI.rowCells 3 rfl r140) (len_le rfl r140.big) (len_le rfl r140.cap) (hI.rowCells 1 rfl r154) (len_le rfl r154.big) (len_le rfl r154.cap) N _ hy178) (fun v' w' h => ⟨h.1.trans (congrArg Value.bool h24), h.2⟩)) (fun v' w' h => h)) ?_
       refine alp 12 (.bool true) hsub rfl (by kernel_rfl) (fun _ => (by kernel_rfl)) ?_
       refine alp 13 (.bool true) hsub rfl (by kernel_rfl) (fun _ => (by kernel_rfl)) ?_
       refine al_on 14 (iv y135.2.2) hsub rfl (by kernel_rfl) (by kernel_rfl) (fun w hI => s_pure (iv y135.2.2) (by kernel_rfl) ⟨rfl, Below.refl _ _⟩) ?_
       refine al_on 15 (iv y149.2.2) hsub rfl (by kernel_rfl) (by kernel_rfl) (fun w hI => s_pure (iv y149.2.2) (by kernel_rfl) ⟨rfl, Below.refl _ _⟩) ?_
       refine al_on 16 (.bool true) hsub rfl (by kernel_rfl) (by kernel_rfl) (fun w hI => s_eql rfl rfl (fun _ => ⟨rfl, Below.refl _ _⟩) (fun h => absurd (a := y135.2.2 = y149.2.2) h25 h)) ?_
       refine alp 17 (.bool true) hsub rfl (by kernel_rfl) (fun _ => (by kernel_rfl)) ?_
       refine alp 18 (.bool true) hsub rfl (by kernel_rfl) (fun _ => (by kernel_rfl)) ?_
       refine al_on 19 (.agg #[iv p2.lo, iv p2.hi, iv p2.toll]) hsub rfl (by kernel_rfl) (by kernel_rfl) (fun w hI => s_loadK hI 8 3 [iv p2.lo, iv p2.hi, iv p2.toll] Try.isAgg30 Try.sizeOf30 rfl rfl rfl rfl ⟨rfl, Below.refl _ _⟩) ?_
       refine al_on 20 (iv y179) hsub rfl (by kernel_rfl) (by kernel_rfl) (fun w hI => s_call 19 [.agg #[iv p2.lo, iv p2.hi, iv p2.toll]] (by kernel_rfl) (L19 _ p2 _ hy180) (fun v' w' h => h)) ?_
       refine al_on 21 (.agg #[iv p2.lo, iv p2.hi, iv p2.toll]) hsub rfl (by kernel_rfl) (by kernel_rfl) (fun w hI => s_loadK hI 8 3 [iv p2.lo, iv p2.hi, iv p2.toll] Try.isAgg30 Try.sizeOf30 rfl rfl rfl rfl ⟨rfl, Below.refl _ _⟩) ?_
       refine al_on 22 (iv y181) hsub rfl (by kernel_rfl) (by kernel_rfl) (fun w hI => s_call 20 [.agg #[iv p2.lo, iv p2.hi, iv p2.toll]] (by kernel_rfl) (L20 _ p2 _ hy182) (fun v' w' h => h)) ?_
       refine al_on 23 (.bool true) hsub rfl (by kernel_rfl) (by kernel_rfl) (fun w hI => s_eql rfl rfl (fun _ => ⟨rfl, Below.refl _ _⟩) (fun h => absurd (a := y179 = y181) h26 h)) ?_
       refine alp 24 (.bool true) hsub rfl (by kernel_rfl) (fun _ => (by kernel_rfl)) ?_
       refine alp 25 (.bool true) hsub rfl (by kernel_rfl) (fun _ => (by kernel_rfl)) ?_
       refine al_on 26 (.agg #[iv p1.fam, iv p1.hrs, iv p1.wants]) hsub rfl (by kernel_rfl) (by kernel_rfl) (fun w hI => s_loadK hI 9 3 [iv p1.fam, iv p1.hrs, iv p1.wants] Try.isAgg26 Try.sizeOf26 rfl rfl rfl rfl ⟨rfl, Below.refl _ _⟩) ?_
       refine al_on 27 (iv y183) hsub rfl (by kernel_rfl) (by kernel_rfl) (fun w hI => s_call 21 [.agg #[iv p1.fam, iv p1.hrs, iv p1.wants]] (by kernel_rfl) (L21 _ p1 _ hy184) (fun v' w' h => h)) ?_
       refine al_on 28 (.agg #[iv p1.fam, iv p1.hrs, iv p1.wants]) hsub rfl (by kernel_rfl) (by kernel_rfl) (fun w hI => s_loadK hI 9 3 [iv p1.fam, iv p1.hrs, iv p1.wants] Try.isAgg26 Try.sizeOf26 rfl rfl rfl rfl ⟨rfl, Below.refl _ _⟩) ?_
       refine al_on 29 (iv y185) hsub rfl (by kernel_rfl) (by kernel_rfl) (fun w hI => s_call 22 [.agg #[iv p1.fam, iv p1.hrs, iv p1.wants]] (by kernel_rfl) (L22 _ p1 _ hy186) (fun v' w' h => h)) ?_
       refine al_on 30 (.bool false) hsub rfl (by kernel_rfl) (by kernel_rfl) (fun w hI => s_eql rfl rfl (fun h => absurd (a := y183 = y185) h h27) (fun _ => ⟨rfl, Below.refl _ _⟩)) ?_
       refine alp 31 (.bool false) hsub rfl (by kernel_rfl) (fun _ => (by kernel_rfl)) ?_
       refine alp 32 (.bool false) hsub rfl (by kernel_rfl) (fun _ => (by kernel_rfl)) ?_
       refine al_off 33 hsub rfl (by kernel_rfl) (by kernel_rfl) ?_
       refine al_off 34 hsub rfl (by kernel_rfl) (by kernel_rfl) ?_
       refine al_off 35 hsub rfl (by kernel_rfl) (by kernel_rfl) ?_
       refine al_off 36 hsub rfl (by kernel_rfl) (by kernel_rfl) ?_
       refine al_off 37 hsub rfl (by kernel_rfl) (by kernel_rfl) ?_
       refine alp 38 (.bool false) hsub rfl (by kernel_rfl) (fun _ => (by kernel_rfl)) ?_
       refine alp 39 (.bool false) hsub rfl (by kernel_rfl) (fun _ => (by kernel_rfl)) ?_
       refine al_off 40 hsub rfl (by kernel_rfl) (by kernel_rfl) ?_
       refine alp 41 (.bool false) hsub rfl (by kernel_rfl) (fun _ => (by kernel_rfl)) ?_
       refine alp 42 (.bool false) hsub rfl (by kernel_rfl) (fun _ => (by kernel_rfl)) ?_
       refine any_end (by kernel_rfl) (fun w hI => ?_)
       refine wp_ret ?_
       replace hF := Option.some.inj hF; subst hF
       exact ⟨.bool false, Ret.r1 rfl rfl, ⟨rfl, hI.below⟩⟩
     ·
      refine wp_drawn2 hI [0, 1, 2, 3, 4, 5, 6, 7, 8, 9, 10] (by decide) rfl (by kernel_rfl) (by kernel_rfl) ?_
      intro hsub
      refine al_light 0 (.agg #[iv y107.1, slv g109 y107.2.1.length c110]) hsub rfl (by kernel_rfl) (fun w hI => s_loadK hI 6 2 [iv y107.1, slv g109 y107.2.1.length c110] Try.isAgg24 Try.sizeOf24 rfl rfl rfl rfl ⟨rfl, Below.refl _ _⟩) ?_
      refine al_light 1 (.agg #[iv y121.1, slv g123 y121.2.1.length c124]) hsub rfl (by kernel_rfl) (fun w hI => s_loadK hI 4 2 [iv y121.1, slv g123 y121.2.1.length c124] Try.isAgg24 Try.sizeOf24 rfl rfl rfl rfl ⟨rfl, Below.refl _ _⟩) ?_
      refine al_light 2 (.bool true) hsub rfl (by kernel_rfl) (fun w hI => s_call 18 [.agg #[iv y107.1, slv g109 y107.2.1.length c110], .agg #[iv y121.1, slv g123 y121.2.1.length c124]] (by kernel_rfl) (Does.mono (L18 _ y107.1 (g109.map fun b => ⟨b, 0, none⟩) c110 y107.2.1 y121.1 (g123.map fun b => ⟨b, 0, none⟩) c124 y121.2.1 (hI.rowCells 7 rfl r112) (len_le rfl r112.big) (len_le rfl r112.cap) (hI.rowCells 5 rfl r126) (len_le rfl r126.big) (len_le rfl r126.cap) N _ hy176) (fun v' w' h => ⟨h.1.trans (congrArg Value.bool h22), h.2⟩)) (fun v' w' h => h)) ?_
      refine alp 3 (.bool true) hsub rfl (by kernel_rfl) (fun _ => (by kernel_rfl)) ?_
      refine al_on 4 (iv y107.2.2) hsub rfl (by kernel_rfl) (by kernel_rfl) (fun w hI => s_pure (iv y107.2.2) (by kernel_rfl) ⟨rfl, Below.refl _ _⟩) ?_
      refine al_on 5 (iv y121.2.2) hsub rfl (by kernel_rfl) (by kernel_rfl) (fun w hI => s_pure (iv y121.2.2) (by kernel_rfl) ⟨rfl, Below.refl _ _⟩) ?_
      refine al_on 6 (.bool true) hsub rfl (by kernel_rfl) (by kernel_rfl) (fun w hI => s_eql rfl rfl (fun _ => ⟨rfl, Below.refl _ _⟩) (fun h => absurd (a := y107.2.2 = y121.2.2) h23 h)) ?_
      refine alp 7 (.bool true) hsub rfl (by kernel_rfl) (fun _ => (by kernel_rfl)) ?_
      refine alp 8 (.bool true) hsub rfl (by kernel_rfl) (fun _ => (by kernel_rfl)) ?_
      refine al_on 9 (.agg #[iv y135.1, slv g137 y135.2.1.length c138]) hsub rfl (by kernel_rfl) (by kernel_rfl) (fun w hI => s_loadK hI 2 2 [iv y135.1, slv g137 y135.2.1.length c138] Try.isAgg24 Try.sizeOf24 rfl rfl rfl rfl ⟨rfl, Below.refl _ _⟩) ?_
      refine al_on 10 (.agg #[iv y149.1, slv g151 y149.2.1.length c152]) hsub rfl (by kernel_rfl) (by kernel_rfl) (fun w hI => s_loadK hI 0 2 [iv y149.1, slv g151 y149.2.1.length c152] Try.isAgg24 Try.sizeOf24 rfl rfl rfl rfl ⟨rfl, Below.refl _ _⟩) ?_
      refine al_on 11 (.bool true) hsub rfl (by kernel_rfl) (by kernel_rfl) (fun w hI => s_call 18 [.agg #[iv y135.1, slv g137 y135.2.1.length c138], .agg #[iv y149.1, slv g151 y149.2.1.length c152]] (by kernel_rfl) (Does.mono (L18 _ y135.1 (g137.map fun b => ⟨b, 0, none⟩) c138 y135.2.1 y149.1 (g151.map fun b => ⟨b, 0, none⟩) c152 y149.2.1 (hI.rowCells 3 rfl r140) (len_le rfl r140.big) (len_le rfl r140.cap) (hI.rowCells 1 rfl r154) (len_le rfl r154.big) (len_le rfl r154.cap) N _ hy178) (fun v' w' h => ⟨h.1.trans (congrArg Value.bool h24), h.2⟩)) (fun v' w' h => h)) ?_
      refine alp 12 (.bool true) hsub rfl (by kernel_rfl) (fun _ => (by kernel_rfl)) ?_
      refine alp 13 (.bool true) hsub rfl (by kernel_rfl) (fun _ => (by kernel_rfl)) ?_
      refine al_on 14 (iv y135.2.2) hsub rfl (by kernel_rfl) (by kernel_rfl) (fun w hI => s_pure (iv y135.2.2) (by kernel_rfl) ⟨rfl, Below.refl _ _⟩) ?_
      refine al_on 15 (iv y149.2.2) hsub rfl (by kernel_rfl) (by kernel_rfl) (fun w hI => s_pure (iv y149.2.2) (by kernel_rfl) ⟨rfl, Below.refl _ _⟩) ?_
      refine al_on 16 (.bool true) hsub rfl (by kernel_rfl) (by kernel_rfl) (fun w hI => s_eql rfl rfl (fun _ => ⟨rfl, Below.refl _ _⟩) (fun h => absurd (a := y135.2.2 = y149.2.2) h25 h)) ?_
      refine alp 17 (.bool true) hsub rfl (by kernel_rfl) (fun _ => (by kernel_rfl)) ?_
      refine alp 18 (.bool true) hsub rfl (by kernel_rfl) (fun _ => (by kernel_rfl)) ?_
      refine al_on 19 (.agg #[iv p2.lo, iv p2.hi, iv p2.toll]) hsub rfl (by kernel_rfl) (by kernel_rfl) (fun w hI => s_loadK hI 8 3 [iv p2.lo, iv p2.hi, iv p2.toll] Try.isAgg30 Try.sizeOf30 rfl rfl rfl rfl ⟨rfl, Below.refl _ _⟩) ?_
      refine al_on 20 (iv y179) hsub rfl (by kernel_rfl) (by kernel_rfl) (fun w hI => s_call 19 [.agg #[iv p2.lo, iv p2.hi, iv p2.toll]] (by kernel_rfl) (L19 _ p2 _ hy180) (fun v' w' h => h)) ?_
      refine al_on 21 (.agg #[iv p2.lo, iv p2.hi, iv p2.toll]) hsub rfl (by kernel_rfl) (by kernel_rfl) (fun w hI => s_loadK hI 8 3 [iv p2.lo, iv p2.hi, iv p2.toll] Try.isAgg30 Try.sizeOf30 rfl rfl rfl rfl ⟨rfl, Below.refl _ _⟩) ?_
      refine al_on 22 (iv y181) hsub rfl (by kernel_rfl) (by kernel_rfl) (fun w hI => s_call 20 [.agg #[iv p2.lo, iv p2.hi, iv p2.toll]] (by kernel_rfl) (L20 _ p2 _ hy182) (fun v' w' h => h)) ?_
      refine al_on 23 (.bool false) hsub rfl (by kernel_rfl) (by kernel_rfl) (fun w hI => s_eql rfl rfl (fun h => absurd (a := y179 = y181) h h26) (fun _ => ⟨rfl, Below.refl _ _⟩)) ?_
      refine alp 24 (.bool false) hsub rfl (by kernel_rfl) (fun _ => (by kernel_rfl)) ?_
      refine alp 25 (.bool false) hsub rfl (by kernel_rfl) (fun _ => (by kernel_rfl)) ?_
      refine al_off 26 hsub rfl (by kernel_rfl) (by kernel_rfl) ?_
      refine al_off 27 hsub rfl (by kernel_rfl) (by kernel_rfl) ?_
      refine al_off 28 hsub rfl (by kernel_rfl) (by kernel_rfl) ?_
      refine al_off 29 hsub rfl (by kernel_rfl) (by kernel_rfl) ?_
      refine al_off 30 hsub rfl (by kernel_rfl) (by kernel_rfl) ?_
      refine alp 31 (.bool false) hsub rfl (by kernel_rfl) (fun _ => (by kernel_rfl)) ?_
      refine alp 32 (.bool false) hsub rfl (by kernel_rfl) (fun _ => (by kernel_rfl)) ?_
      refine al_off 33 hsub rfl (by kernel_rfl) (by kernel_rfl) ?_
      refine al_off 34 hsub rfl (by kernel_rfl) (by kernel_rfl) ?_
      refine al_off 35 hsub rfl (by kernel_rfl) (by kernel_rfl) ?_
      refine al_off 36 hsub rfl (by kernel_rfl) (by kernel_rfl) ?_
      refine al_off 37 hsub rfl (by kernel_rfl) (by kernel_rfl) ?_
      refine alp 38 (.bool false) hsub rfl (by kernel_rfl) (fun _ => (by kernel_rfl)) ?_
      refine alp 39 (.bool false) hsub rfl (by kernel_rfl) (fun _ => (by kernel_rfl)) ?_
      refine al_off 40 hsub rfl (by kernel_rfl) (by kernel_rfl) ?_
      refine alp 41 (.bool false) hsub rfl (by kernel_rfl) (fun _ => (by kernel_rfl)) ?_
      refine alp 42 (.bool false) hsub rfl (by kernel_rfl) (fun _ => (by kernel_rfl)) ?_
      refine any_end (by kernel_rfl) (fun w hI => ?_)
      refine wp_ret ?_
      replace hF := Option.some.inj hF; subst hF
      exact ⟨.bool false, Ret.r1 rfl rfl, ⟨rfl, hI.below⟩⟩
    ·
     refine wp_drawn2 hI [0, 1, 2, 3, 4, 5, 6, 7, 8, 9, 10] (by decide) rfl (by kernel_rfl) (by kernel_rfl) ?_
     intro hsub
     refine al_light 0 (.agg #[iv y107.1, slv g109 y107.2.1.length c110]) hsub rfl (by kernel_rfl) (fun w hI => s_loadK hI 6 2 [iv y107.1, slv g109 y107.2.1.length c110] Try.isAgg24 Try.sizeOf24 rfl rfl rfl rfl ⟨rfl, Below.refl _ _⟩) ?_
     refine al_light 1 (.agg #[iv y121.1, slv g123 y121.2.1.length c124]) hsub rfl (by kernel_rfl) (fun w hI => s_loadK hI 4 2 [iv y121.1, slv g123 y121.2.1.length c124] Try.isAgg24 Try.sizeOf24 rfl rfl rfl rfl ⟨rfl, Below.refl _ _⟩) ?_
     refine al_light 2 (.bool true) hsub rfl (by kernel_rfl) (fun w hI => s_call 18 [.agg #[iv y107.1, slv g109 y107.2.1.length c110], .agg #[iv y121.1, slv g123 y121.2.1.length c124]] (by kernel_rfl) (Does.mono (L18 _ y107.1 (g109.map fun b => ⟨b, 0, none⟩) c110 y107.2.1 y121.1 (g123.map fun b => ⟨b, 0, none⟩) c124 y121.2.1 (hI.rowCells 7 rfl r112) (len_le rfl r112.big) (len_le rfl r112.cap) (hI.rowCells 5 rfl r126) (len_le rfl r126.big) (len_le rfl r126.cap) N _ hy176) (fun v' w' h => ⟨h.1.trans (congrArg Value.bool h22), h.2⟩)) (fun v' w' h => h)) ?_
     refine alp 3 (.bool true) hsub rfl (by kernel_rfl) (fun _ => (by kernel_rfl)) ?_
     refine al_on 4 (iv y107.2.2) hsub rfl (by kernel_rfl) (by kernel_rfl) (fun w hI => s_pure (iv y107.2.2) (by kernel_rfl) ⟨rfl, Below.refl _ _⟩) ?_
     refine al_on 5 (iv y121.2.2) hsub rfl (by kernel_rfl) (by kernel_rfl) (fun w hI => s_pure (iv y121.2.2) (by kernel_rfl) ⟨rfl, Below.refl _ _⟩) ?_
     refine al_on 6 (.bool true) hsub rfl (by kernel_rfl) (by kernel_rfl) (fun w hI => s_eql rfl rfl (fun _ => ⟨rfl, Below.refl _ _⟩) (fun h => absurd (a := y107.2.2 = y121.2.2) h23 h)) ?_
     refine alp 7 (.bool true) hsub rfl (by kernel_rfl) (fun _ => (by kernel_rfl)) ?_
     refine alp 8 (.bool true) hsub rfl (by kernel_rfl) (fun _ => (by kernel_rfl)) ?_
     refine al_on 9 (.agg #[iv y135.1, slv g137 y135.2.1.length c138]) hsub rfl (by kernel_rfl) (by kernel_rfl) (fun w hI => s_loadK hI 2 2 [iv y135.1, slv g137 y135.2.1.length c138] Try.isAgg24 Try.sizeOf24 rfl rfl rfl rfl ⟨rfl, Below.refl _ _⟩) ?_
     refine al_on 10 (.agg #[iv y149.1, slv g151 y149.2.1.length c152]) hsub rfl (by kernel_rfl) (by kernel_rfl) (fun w hI => s_loadK hI 0 2 [iv y149.1, slv g151 y149.2.1.length c152] Try.isAgg24 Try.sizeOf24 rfl rfl rfl rfl ⟨rfl, Below.refl _ _⟩) ?_
     refine al_on 11 (.bool true) hsub rfl (by kernel_rfl) (by kernel_rfl) (fun w hI => s_call 18 [.agg #[iv y135.1, slv g137 y135.2.1.length c138], .agg #[iv y149.1, slv g151 y149.2.1.length c152]] (by kernel_rfl) (Does.mono (L18 _ y135.1 (g137.map fun b => ⟨b, 0, none⟩) c138 y135.2.1 y149.1 (g151.map fun b => ⟨b, 0, none⟩) c152 y149.2.1 (hI.rowCells 3 rfl r140) (len_le rfl r140.big) (len_le rfl r140.cap) (hI.rowCells 1 rfl r154) (len_le rfl r154.big) (len_le rfl r154.cap) N _ hy178) (fun v' w' h => ⟨h.1.trans (congrArg Value.bool h24), h.2⟩)) (fun v' w' h => h)) ?_
     refine alp 12 (.bool true) hsub rfl (by kernel_rfl) (fun _ => (by kernel_rfl)) ?_
     refine alp 13 (.bool true) hsub rfl (by kernel_rfl) (fun _ => (by kernel_rfl)) ?_
     refine al_on 14 (iv y135.2.2) hsub rfl (by kernel_rfl) (by kernel_rfl) (fun w hI => s_pure (iv y135.2.2) (by kernel_rfl) ⟨rfl, Below.refl _ _⟩) ?_
     refine al_on 15 (iv y149.2.2) hsub rfl (by kernel_rfl) (by kernel_rfl) (fun w hI => s_pure (iv y149.2.2) (by kernel_rfl) ⟨rfl, Below.refl _ _⟩) ?_
     refine al_on 16 (.bool false) hsub rfl (by kernel_rfl) (by kernel_rfl) (fun w hI => s_eql rfl rfl (fun h => absurd (a := y135.2.2 = y149.2.2) h h25) (fun _ => ⟨rfl, Below.refl _ _⟩)) ?_
     refine alp 17 (.bool false) hsub rfl (by kernel_rfl) (fun _ => (by kernel_rfl)) ?_
     refine alp 18 (.bool false) hsub rfl (by kernel_rfl) (fun _ => (by kernel_rfl)) ?_
     refine al_off 19 hsub rfl (by kernel_rfl) (by kernel_rfl) ?_
     refine al_off 20 hsub rfl (by kernel_rfl) (by kernel_rfl) ?_
     refine al_off 21 hsub rfl (by kernel_rfl) (by kernel_rfl) ?_
     refine al_off 22 hsub rfl (by kernel_rfl) (by kernel_rfl) ?_
     refine al_off 23 hsub rfl (by kernel_rfl) (by kernel_rfl) ?_
     refine alp 24 (.bool false) hsub rfl (by kernel_rfl) (fun _ => (by kernel_rfl)) ?_
     refine alp 25 (.bool false) hsub rfl (by kernel_rfl) (fun _ => (by kernel_rfl)) ?_
     refine al_off 26 hsub rfl (by kernel_rfl) (by kernel_rfl) ?_
     refine al_off 27 hsub rfl (by kernel_rfl) (by kernel_rfl) ?_
     refine al_off 28 hsub rfl (by kernel_rfl) (by kernel_rfl) ?_
     refine al_off 29 hsub rfl (by kernel_rfl) (by kernel_rfl) ?_
     refine al_off 30 hsub rfl (by kernel_rfl) (by kernel_rfl) ?_
     refine alp 31 (.bool false) hsub rfl (by kernel_rfl) (fun _ => (by kernel_rfl)) ?_
     refine alp 32 (.bool false) hsub rfl (by kernel_rfl) (fun _ => (by kernel_rfl)) ?_
     refine al_off 33 hsub rfl (by kernel_rfl) (by kernel_rfl) ?_
     refine al_off 34 hsub rfl (by kernel_rfl) (by kernel_rfl) ?_
     refine al_off 35 hsub rfl (by kernel_rfl) (by kernel_rfl) ?_
     refine al_off 36 hsub rfl (by kernel_rfl) (by kernel_rfl) ?_
     refine al_off 37 hsub rfl (by kernel_rfl) (by kernel_rfl) ?_
     refine alp 38 (.bool false) hsub rfl (by kernel_rfl) (fun _ => (by kernel_rfl)) ?_
     refine alp 39 (.bool false) hsub rfl (by kernel_rfl) (fun _ => (by kernel_rfl)) ?_
     refine al_off 40 hsub rfl (by kernel_rfl) (by kernel_rfl) ?_
     refine alp 41 (.bool false) hsub rfl (by kernel_rfl) (fun _ => (by kernel_rfl)) ?_
     refine alp 42 (.bool false) hsub rfl (by kernel_rfl) (fun _ => (by kernel_rfl)) ?_
     refine any_end (by kernel_rfl) (fun w hI => ?_)
     refine wp_ret ?_
     replace hF := Option.some.inj hF; subst hF
     exact ⟨.bool false, Ret.r1 rfl rfl, ⟨rfl, hI.below⟩⟩
   ·
    refine wp_drawn2 hI [0, 1, 2, 3, 4, 5, 6, 7, 8, 9, 10] (by decide) rfl (by kernel_rfl) (by kernel_rfl) ?_
    intro hsub
    refine al_light 0 (.agg #[iv y107.1, slv g109 y107.2.1.length c110]) hsub rfl (by kernel_rfl) (fun w hI => s_loadK hI 6 2 [iv y107.1, slv g109 y107.2.1.length c110] Try.isAgg24 Try.sizeOf24 rfl rfl rfl rfl ⟨rfl, Below.refl _ _⟩) ?_
    refine al_light 1 (.agg #[iv y121.1, slv g123 y121.2.1.length c124]) hsub rfl (by kernel_rfl) (fun w hI => s_loadK hI 4 2 [iv y121.1, slv g123 y121.2.1.length c124] Try.isAgg24 Try.sizeOf24 rfl rfl rfl rfl ⟨rfl, Below.refl _ _⟩) ?_
    refine al_light 2 (.bool true) hsub rfl (by kernel_rfl) (fun w hI => s_call 18 [.agg #[iv y107.1, slv g109 y107.2.1.length c110], .agg #[iv y121.1, slv g123 y121.2.1.length c124]] (by kernel_rfl) (Does.mono (L18 _ y107.1 (g109.map fun b => ⟨b, 0, none⟩) c110 y107.2.1 y121.1 (g123.map fun b => ⟨b, 0, none⟩) c124 y121.2.1 (hI.rowCells 7 rfl r112) (len_le rfl r112.big) (len_le rfl r112.cap) (hI.rowCells 5 rfl r126) (len_le rfl r126.big) (len_le rfl r126.cap) N _ hy176) (fun v' w' h => ⟨h.1.trans (congrArg Value.bool h22), h.2⟩)) (fun v' w' h => h)) ?_
    refine alp 3 (.bool true) hsub rfl (by kernel_rfl) (fun _ => (by kernel_rfl)) ?_
    refine al_on 4 (iv y107.2.2) hsub rfl (by kernel_rfl) (by kernel_rfl) (fun w hI => s_pure (iv y107.2.2) (by kernel_rfl) ⟨rfl, Below.refl _ _⟩) ?_
    refine al_on 5 (iv y121.2.2) hsub rfl (by kernel_rfl) (by kernel_rfl) (fun w hI => s_pure (iv y121.2.2) (by kernel_rfl) ⟨rfl, Below.refl _ _⟩) ?_
    refine al_on 6 (.bool true) hsub rfl (by kernel_rfl) (by kernel_rfl) (fun w hI => s_eql rfl rfl (fun _ => ⟨rfl, Below.refl _ _⟩) (fun h => absurd (a := y107.2.2 = y121.2.2) h23 h)) ?_
    refine alp 7 (.bool true) hsub rfl (by kernel_rfl) (fun _ => (by kernel_rfl)) ?_
    refine alp 8 (.bool true) hsub rfl (by kernel_rfl) (fun _ => (by kernel_rfl)) ?_
    refine al_on 9 (.agg #[iv y135.1, slv g137 y135.2.1.length c138]) hsub rfl (by kernel_rfl) (by kernel_rfl) (fun w hI => s_loadK hI 2 2 [iv y135.1, slv g137 y135.2.1.length c138] Try.isAgg24 Try.sizeOf24 rfl rfl rfl rfl ⟨rfl, Below.refl _ _⟩) ?_
    refine al_on 10 (.agg #[iv y149.1, slv g151 y149.2.1.length c152]) hsub rfl (by kernel_rfl) (by kernel_rfl) (fun w hI => s_loadK hI 0 2 [iv y149.1, slv g151 y149.2.1.length c152] Try.isAgg24 Try.sizeOf24 rfl rfl rfl rfl ⟨rfl, Below.refl _ _⟩) ?_
    refine al_on 11 (.bool false) hsub rfl (by kernel_rfl) (by kernel_rfl) (fun w hI => s_call 18 [.agg #[iv y135.1, slv g137 y135.2.1.length c138], .agg #[iv y149.1, slv g151 y149.2.1.length c152]] (by kernel_rfl) (Does.mono (L18 _ y135.1 (g137.map fun b => ⟨b, 0, none⟩) c138 y135.2.1 y149.1 (g151.map fun b => ⟨b, 0, none⟩) c152 y149.2.1 (hI.rowCells 3 rfl r140) (len_le rfl r140.big) (len_le rfl r140.cap) (hI.rowCells 1 rfl r154) (len_le rfl r154.big) (len_le rfl r154.cap) N _ hy178) (fun v' w' h => ⟨h.1.trans (congrArg Value.bool (Bool.eq_false_iff.2 h24)), h.2⟩)) (fun v' w' h => h)) ?_
    refine alp 12 (.bool false) hsub rfl (by kernel_rfl) (fun _ => (by kernel_rfl)) ?_
    refine alp 13 (.bool false) hsub rfl (by kernel_rfl) (fun _ => (by kernel_rfl)) ?_
    refine al_off 14 hsub rfl (by kernel_rfl) (by kernel_rfl) ?_
    refine al_off 15 hsub rfl (by kernel_rfl) (by kernel_rfl) ?_
    refine al_off 16 hsub rfl (by kernel_rfl) (by kernel_rfl) ?_
    refine alp 17 (.bool false) hsub rfl (by kernel_rfl) (fun _ => (by kernel_rfl)) ?_
    refine alp 18 (.bool false) hsub rfl (by kernel_rfl) (fun _ => (by kernel_rfl)) ?_
    refine al_off 19 hsub rfl (by kernel_rfl) (by kernel_rfl) ?_
    refine al_off 20 hsub rfl (by kernel_rfl) (by kernel_rfl) ?_
    refine al_off 21 hsub rfl (by kernel_rfl) (by kernel_rfl) ?_
    refine al_off 22 hsub rfl (by kernel_rfl) (by kernel_rfl) ?_
    refine al_off 23 hsub rfl (by kernel_rfl) (by kernel_rfl) ?_
    refine alp 24 (.bool false) hsub rfl (by kernel_rfl) (fun _ => (by kernel_rfl)) ?_
    refine alp 25 (.bool false) hsub rfl (by kernel_rfl) (fun _ => (by kernel_rfl)) ?_
    refine al_off 26 hsub rfl (by kernel_rfl) (by kernel_rfl) ?_
    refine al_off 27 hsub rfl (by kernel_rfl) (by kernel_rfl) ?_
    refine al_off 28 hsub rfl (by kernel_rfl) (by kernel_rfl) ?_
    refine al_off 29 hsub rfl (by kernel_rfl) (by kernel_rfl) ?_
    refine al_off 30 hsub rfl (by kernel_rfl) (by kernel_rfl) ?_
    refine alp 31 (.bool false) hsub rfl (by kernel_rfl) (fun _ => (by kernel_rfl)) ?_
    refine alp 32 (.bool false) hsub rfl (by kernel_rfl) (fun _ => (by kernel_rfl)) ?_
    refine al_off 33 hsub rfl (by kernel_rfl) (by kernel_rfl) ?_
    refine al_off 34 hsub rfl (by kernel_rfl) (by kernel_rfl) ?_
    refine al_off 35 hsub rfl (by kernel_rfl) (by kernel_rfl) ?_
    refine al_off 36 hsub rfl (by kernel_rfl) (by kernel_rfl) ?_
    refine al_off 37 hsub rfl (by kernel_rfl) (by kernel_rfl) ?_
    refine alp 38 (.bool false) hsub rfl (by kernel_rfl) (fun _ => (by kernel_rfl)) ?_
    refine alp 39 (.bool false) hsub rfl (by kernel_rfl) (fun _ => (by kernel_rfl)) ?_
    refine al_off 40 hsub rfl (by kernel_rfl) (by kernel_rfl) ?_
    refine alp 41 (.bool false) hsub rfl (by kernel_rfl) (fun _ => (by kernel_rfl)) ?_
    refine alp 42 (.bool false) hsub rfl (by kernel_rfl) (fun _ => (by kernel_rfl)) ?_
    refine any_end (by kernel_rfl) (fun w hI => ?_)
    refine wp_ret ?_
    replace hF := Option.some.inj hF; subst hF
    exact ⟨.bool false, Ret.r1 rfl rfl, ⟨rfl, hI.below⟩⟩
  ·
   refine wp_drawn2 hI [0, 1, 2, 3, 4, 5, 6, 7, 8, 9, 10] (by decide) rfl (by kernel_rfl) (by kernel_rfl) ?_
   intro hsub
   refine al_light 0 (.agg #[iv y107.1, slv g109 y107.2.1.length c110]) hsub rfl (by kernel_rfl) (fun w hI => s_loadK hI 6 2 [iv y107.1, slv g109 y107.2.1.length c110] Try.isAgg24 Try.sizeOf24 rfl rfl rfl rfl ⟨rfl, Below.refl _ _⟩) ?_
   refine al_light 1 (.agg #[iv y121.1, slv g123 y121.2.1.length c124]) hsub rfl (by kernel_rfl) (fun w hI => s_loadK hI 4 2 [iv y121.1, slv g123 y121.2.1.length c124] Try.isAgg24 Try.sizeOf24 rfl rfl rfl rfl ⟨rfl, Below.refl _ _⟩) ?_
   refine al_light 2 (.bool true) hsub rfl (by kernel_rfl) (fun w hI => s_call 18 [.agg #[iv y107.1, slv g109 y107.2.1.length c110], .agg #[iv y121.1, slv g123 y121.2.1.length c124]] (by kernel_rfl) (Does.mono (L18 _ y107.1 (g109.map fun b => ⟨b, 0, none⟩) c110 y107.2.1 y121.1 (g123.map fun b => ⟨b, 0, none⟩) c124 y121.2.1 (hI.rowCells 7 rfl r112) (len_le rfl r112.big) (len_le rfl r112.cap) (hI.rowCells 5 rfl r126) (len_le rfl r126.big) (len_le rfl r126.cap) N _ hy176) (fun v' w' h => ⟨h.1.trans (congrArg Value.bool h22), h.2⟩)) (fun v' w' h => h)) ?_
   refine alp 3 (.bool true) hsub rfl (by kernel_rfl) (fun _ => (by kernel_rfl)) ?_
   refine al_on 4 (iv y107.2.2) hsub rfl (by kernel_rfl) (by kernel_rfl) (fun w hI => s_pure (iv y107.2.2) (by kernel_rfl) ⟨rfl, Below.refl _ _⟩) ?_
   refine al_on 5 (iv y121.2.2) hsub rfl (by kernel_rfl) (by kernel_rfl) (fun w hI => s_pure (iv y121.2.2) (by kernel_rfl) ⟨rfl, Below.refl _ _⟩) ?_
   refine al_on 6 (.bool false) hsub rfl (by kernel_rfl) (by kernel_rfl) (fun w hI => s_eql rfl rfl (fun h => absurd (a := y107.2.2 = y121.2.2) h h23) (fun _ => ⟨rfl, Below.refl _ _⟩)) ?_
   refine alp 7 (.bool false) hsub rfl (by kernel_rfl) (fun _ => (by kernel_rfl)) ?_
   refine alp 8 (.bool false) hsub rfl (by kernel_rfl) (fun _ => (by kernel_rfl)) ?_
   refine al_off 9 hsub rfl (by kernel_rfl) (by kernel_rfl) ?_
   refine al_off 10 hsub rfl (by kernel_rfl) (by kernel_rfl) ?_
   refine al_off 11 hsub rfl (by kernel_rfl) (by kernel_rfl) ?_
   refine alp 12 (.bool false) hsub rfl (by kernel_rfl) (fun _ => (by kernel_rfl)) ?_
   refine alp 13 (.bool false) hsub rfl (by kernel_rfl) (fun _ => (by kernel_rfl)) ?_
   refine al_off 14 hsub rfl (by kernel_rfl) (by kernel_rfl) ?_
   refine al_off 15 hsub rfl (by kernel_rfl) (by kernel_rfl) ?_
   refine al_off 16 hsub rfl (by kernel_rfl) (by kernel_rfl) ?_
   refine alp 17 (.bool false) hsub rfl (by kernel_rfl) (fun _ => (by kernel_rfl)) ?_
   refine alp 18 (.bool false) hsub rfl (by kernel_rfl) (fun _ => (by kernel_rfl)) ?_
   refine al_off 19 hsub rfl (by kernel_rfl) (by kernel_rfl) ?_
   refine al_off 20 hsub rfl (by kernel_rfl) (by kernel_rfl) ?_
   refine al_off 21 hsub rfl (by kernel_rfl) (by kernel_rfl) ?_
   refine al_off 22 hsub rfl (by kernel_rfl) (by kernel_rfl) ?_
   refine al_off 23 hsub rfl (by kernel_rfl) (by kernel_rfl) ?_
   refine alp 24 (.bool false) hsub rfl (by kernel_rfl) (fun _ => (by kernel_rfl)) ?_
   refine alp 25 (.bool false) hsub rfl (by kernel_rfl) (fun _ => (by kernel_rfl)) ?_
   refine al_off 26 hsub rfl (by kernel_rfl) (by kernel_rfl) ?_
   refine al_off 27 hsub rfl (by kernel_rfl) (by kernel_rfl) ?_
   refine al_off 28 hsub rfl (by kernel_rfl) (by kernel_rfl) ?_
   refine al_off 29 hsub rfl (by kernel_rfl) (by kernel_rfl) ?_
   refine al_off 30 hsub rfl (by kernel_rfl) (by kernel_rfl) ?_
   refine alp 31 (.bool false) hsub rfl (by kernel_rfl) (fun _ => (by kernel_rfl)) ?_
   refine alp 32 (.bool false) hsub rfl (by kernel_rfl) (fun _ => (by kernel_rfl)) ?_
   refine al_off 33 hsub rfl (by kernel_rfl) (by kernel_rfl) ?_
   refine al_off 34 hsub rfl (by kernel_rfl) (by kernel_rfl) ?_
   refine al_off 35 hsub rfl (by kernel_rfl) (by kernel_rfl) ?_
   refine al_off 36 hsub rfl (by kernel_rfl) (by kernel_rfl) ?_
   refine al_off 37 hsub rfl (by kernel_rfl) (by kernel_rfl) ?_
   refine alp 38 (.bool false) hsub rfl (by kernel_rfl) (fun _ => (by kernel_rfl)) ?_
   refine alp 39 (.bool false) hsub rfl (by kernel_rfl) (fun _ => (by kernel_rfl)) ?_
   refine al_off 40 hsub rfl (by kernel_rfl) (by kernel_rfl) ?_
   refine alp 41 (.bool false) hsub rfl (by kernel_rfl) (fun _ => (by kernel_rfl)) ?_
   refine alp 42 (.bool false) hsub rfl (by kernel_rfl) (fun _ => (by kernel_rfl)) ?_
   refine any_end (by kernel_rfl) (fun w hI => ?_)
   refine wp_ret ?_
   replace hF := Option.some.inj hF; subst hF
   exact ⟨.bool false, Ret.r1 rfl rfl, ⟨rfl, hI.below⟩⟩
 ·
  refine wp_drawn2 hI [0, 1, 2, 3, 4, 5, 6, 7, 8, 9, 10] (by decide) rfl (by kernel_rfl) (by kernel_rfl) ?_
  intro hsub
  refine al_light 0 (.agg #[iv y107.1, slv g109 y107.2.1.length c110]) hsub rfl (by kernel_rfl) (fun w hI => s_loadK hI 6 2 [iv y107.1, slv g109 y107.2.1.length c110] Try.isAgg24 Try.sizeOf24 rfl rfl rfl rfl ⟨rfl, Below.refl _ _⟩) ?_
  refine al_light 1 (.agg #[iv y121.1, slv g123 y121.2.1.length c124]) hsub rfl (by kernel_rfl) (fun w hI => s_loadK hI 4 2 [iv y121.1, slv g123 y121.2.1.length c124] Try.isAgg24 Try.sizeOf24 rfl rfl rfl rfl ⟨rfl, Below.refl _ _⟩) ?_
  refine al_light 2 (.bool false) hsub rfl (by kernel_rfl) (fun w hI => s_call 18 [.agg #[iv y107.1, slv g109 y107.2.1.length c110], .agg #[iv y121.1, slv g123 y121.2.1.length c124]] (by kernel_rfl) (Does.mono (L18 _ y107.1 (g109.map fun b => ⟨b, 0, none⟩) c110 y107.2.1 y121.1 (g123.map fun b => ⟨b, 0, none⟩) c124 y121.2.1 (hI.rowCells 7 rfl r112) (len_le rfl r112.big) (len_le rfl r112.cap) (hI.rowCells 5 rfl r126) (len_le rfl r126.big) (len_le rfl r126.cap) N _ hy176) (fun v' w' h => ⟨h.1.trans (congrArg Value.bool (Bool.eq_false_iff.2 h22)), h.2⟩)) (fun v' w' h => h)) ?_
  refine alp 3 (.bool false) hsub rfl (by kernel_rfl) (fun _ => (by kernel_rfl)) ?_
  refine al_off 4 hsub rfl (by kernel_rfl) (by kernel_rfl) ?_
  refine al_off 5 hsub rfl (by kernel_rfl) (by kernel_rfl) ?_
  refine al_off 6 hsub rfl (by kernel_rfl) (by kernel_rfl) ?_
  refine alp 7 (.bool false) hsub rfl (by kernel_rfl) (fun _ => (by kernel_rfl)) ?_
  refine alp 8 (.bool false) hsub rfl (by kernel_rfl) (fun _ => (by kernel_rfl)) ?_
  refine al_off 9 hsub rfl (by kernel_rfl) (by kernel_rfl) ?_
  refine al_off 10 hsub rfl (by kernel_rfl) (by kernel_rfl) ?_
  refine al_off 11 hsub rfl (by kernel_rfl) (by kernel_rfl) ?_
  refine alp 12 (.bool false) hsub rfl (by kernel_rfl) (fun _ => (by kernel_rfl)) ?_
  refine alp 13 (.bool false) hsub rfl (by kernel_rfl) (fun _ => (by kernel_rfl)) ?_
  refine al_off 14 hsub rfl (by kernel_rfl) (by kernel_rfl) ?_
  refine al_off 15 hsub rfl (by kernel_rfl) (by kernel_rfl) ?_
  refine al_off 16 hsub rfl (by kernel_rfl) (by kernel_rfl) ?_
  refine alp 17 (.bool false) hsub rfl (by kernel_rfl) (fun _ => (by kernel_rfl)) ?_
  refine alp 18 (.bool false) hsub rfl (by kernel_rfl) (fun _ => (by kernel_rfl)) ?_
  refine al_off 19 hsub rfl (by kernel_rfl) (by kernel_rfl) ?_
  refine al_off 20 hsub rfl (by kernel_rfl) (by kernel_rfl) ?_
  refine al_off 21 hsub rfl (by kernel_rfl) (by kernel_rfl) ?_
  refine al_off 22 hsub rfl (by kernel_rfl) (by kernel_rfl) ?_
  refine al_off 23 hsub rfl (by kernel_rfl) (by kernel_rfl) ?_
  refine alp 24 (.bool false) hsub rfl (by kernel_rfl) (fun _ => (by kernel_rfl)) ?_
  refine alp 25 (.bool false) hsub rfl (by kernel_rfl) (fun _ => (by kernel_rfl)) ?_
  refine al_off 26 hsub rfl (by kernel_rfl) (by kernel_rfl) ?_
  refine al_off 27 hsub rfl (by kernel_rfl) (by kernel_rfl) ?_
  refine al_off 28 hsub rfl (by kernel_rfl) (by kernel_rfl) ?_
  refine al_off 29 hsub rfl (by kernel_rfl) (by kernel_rfl) ?_
  refine al_off 30 hsub rfl (by kernel_rfl) (by kernel_rfl) ?_
  refine alp 31 (.bool false) hsub rfl (by kernel_rfl) (fun _ => (by kernel_rfl)) ?_
  refine alp 32 (.bool false) hsub rfl (by kernel_rfl) (fun _ => (by kernel_rfl)) ?_
  refine al_off 33 hsub rfl (by kernel_rfl) (by kernel_rfl) ?_
  refine al_off 34 hsub rfl (by kernel_rfl) (by kernel_rfl) ?_
  refine al_off 35 hsub rfl (by kernel_rfl) (by kernel_rfl) ?_
  refine al_off 36 hsub rfl (by kernel_rfl) (by kernel_rfl) ?_
  refine al_off 37 hsub rfl (by kernel_rfl) (by kernel_rfl) ?_
  refine alp 38 (.bool false) hsub rfl (by kernel_rfl) (fun _ => (by kernel_rfl)) ?_
  refine alp 39 (.bool false) hsub rfl (by kernel_rfl) (fun _ => (by kernel_rfl)) ?_
  refine al_off 40 hsub rfl (by kernel_rfl) (by kernel_rfl) ?_
  refine alp 41 (.bool false) hsub rfl (by kernel_rfl) (fun _ => (by kernel_rfl)) ?_
  refine alp 42 (.bool false) hsub rfl (by kernel_rfl) (fun _ => (by kernel_rfl)) ?_
  refine any_end (by kernel_rfl) (fun w hI => ?_)
  refine wp_ret ?_
  replace hF := Option.some.inj hF; subst hF
  exact ⟨.bool false, Ret.r1 rfl rfl, ⟨rfl, hI.below⟩⟩


end Go.K
