/- That the functions do what the pure definitions say: walks, as tools/lift.py writes them. No condition. -/
import Derived.Test.YtfdjmhmjdihihaaPWb
namespace Go.K
open Go.Proofs Go.RowKit
set_option linter.unusedVariables false
set_option maxRecDepth 100000
attribute [local irreducible] Seq Step CallV AnyE opX
theorem L25 (w0 : World) (N : Nat) (r : Bool) (hF : F25 N = some r) : Does Try.prog 25 [] w0 fun v w => v = .bool r ∧ Below w0.heap.size w0 w := by
 refine calls_of (n := 173) Try.func25 rfl Try.ntmps25 rfl ?_
 have hI := Inv.start w0
 unfold F25 at hF
 refine wp_seq (rgn (by kernel_rfl) (pu (.bool false) (by kernel_rfl) (seq_nil (wp_seq (rgn (by kernel_rfl) (bindE hF (fun y122 hy123 hF => ?_)))))))
 refine seq_c (s_call 72 [] (by kernel_rfl) (L72 _ _ hy123) ?_)
 rintro v w ⟨g124, c125, cl126, rfl, hN, r127⟩
 have hI := hI.join hN; clear hN
 refine seq_c (s_allocI hI [iv 0, .slice none 0 0] Try.zeroValue24 rfl ?_)
 intro b128 w hI
 refine seq_c (s_store hI 0 2 [iv y122.1, slv g124 y122.2.length c125] Try.sizeOf24 rfl rfl rfl rfl rfl (Nat.le_of_ble_eq_true rfl) ?_)
 intro w hI
 refine seq_nil (wp_seq (rgn (by kernel_rfl) (pu (.agg #[iv 40, iv 60]) (by kernel_rfl) (pu (.agg #[iv 40, iv 60, iv 16]) (by kernel_rfl) (seq_c (s_allocI hI [iv 0, iv 0, iv 0] Try.zeroValue30 rfl ?_))))))
 intro b129 w hI
 refine seq_c (s_store hI 0 3 [iv 40, iv 60, iv 16] Try.sizeOf30 rfl rfl rfl rfl rfl (Nat.le_of_ble_eq_true rfl) ?_)
 intro w hI
 refine seq_nil (wp_seq (rgn (by kernel_rfl) (seq_c (s_loadK hI 0 3 [iv 40, iv 60, iv 16] Try.isAgg30 Try.sizeOf30 rfl rfl rfl rfl ?_))))
 refine pu (.agg #[iv 10, iv 35]) (by kernel_rfl) (bindE hF (fun y133 hy134 hF => ?_))
 refine seq_c (s_callv hI 26 [.agg #[iv 40, iv 60, iv 16], .agg #[iv 10, iv 35]] (.tuple #[.agg #[iv y133.1, iv y133.2.1], iv y133.2.2]) (by kernel_rfl) (L26 _ (⟨40, 60, 16⟩ : Yl) (⟨10, 35⟩ : Rg) _ hy134) ?_)
 intro w hI
 refine pu (.tuple #[.agg #[iv y133.1, iv y133.2.1], iv y133.2.2]) (by kernel_rfl) (pu (.agg #[iv y133.1, iv y133.2.1]) (by kernel_rfl) (pu (iv y133.2.2) (by kernel_rfl) (seq_c (s_allocI hI [iv 0, iv 0] Try.zeroValue28 rfl ?_))))
 intro b135 w hI
 refine seq_c (s_store hI 0 2 [iv y133.1, iv y133.2.1] Try.sizeOf28 rfl rfl rfl rfl rfl (Nat.le_of_ble_eq_true rfl) ?_)
 intro w hI
 refine pu (iv y133.2.2) (by kernel_rfl) (seq_nil (wp_seq (rgn (by kernel_rfl) (seq_c (s_loadK hI 1 3 [iv 40, iv 60, iv 16] Try.isAgg30 Try.sizeOf30 rfl rfl rfl rfl ?_)))))
 refine pu (.agg #[iv 40, iv 40]) (by kernel_rfl) (bindE hF (fun y139 hy140 hF => ?_))
 refine seq_c (s_callv hI 30 [.agg #[iv 40, iv 60, iv 16], .agg #[iv 40, iv 40]] (.tuple #[.agg #[iv y139.1, iv y139.2.1], iv y139.2.2]) (by kernel_rfl) (L30 _ (⟨40, 60, 16⟩ : Yl) (⟨40, 40⟩ : Rg) _ hy140) ?_)
 intro w hI
 refine pu (.tuple #[.agg #[iv y139.1, iv y139.2.1], iv y139.2.2]) (by kernel_rfl) (pu (.agg #[iv y139.1, iv y139.2.1]) (by kernel_rfl) (pu (iv y139.2.2) (by kernel_rfl) (seq_c (s_allocI hI [iv 0, iv 0] Try.zeroValue28 rfl ?_))))
 intro b141 w hI
 refine seq_c (s_store hI 0 2 [iv y139.1, iv y139.2.1] Try.sizeOf28 rfl rfl rfl rfl rfl (Nat.le_of_ble_eq_true rfl) ?_)
 intro w hI
 refine pu (iv y139.2.2) (by kernel_rfl) (seq_nil (wp_seq (rgn (by kernel_rfl) (seq_c (s_loadK hI 2 3 [iv 40, iv 60, iv 16] Try.isAgg30 Try.sizeOf30 rfl rfl rfl rfl ?_)))))
 refine pu (.agg #[iv 4, iv 4]) (by kernel_rfl) (bindE hF (fun y145 hy146 hF => ?_))
 refine seq_c (s_callv hI 32 [.agg #[iv 40, iv 60, iv 16], .agg #[iv 4, iv 4]] (.tuple #[.agg #[iv y145.1, iv y145.2.1], iv y145.2.2]) (by kernel_rfl) (L32 _ (⟨40, 60, 16⟩ : Yl) (⟨4, 4⟩ : Rg) N _ hy146) ?_)
 intro w hI
 refine pu (.tuple #[.agg #[iv y145.1, iv y145.2.1], iv y145.2.2]) (by kernel_rfl) (pu (.agg #[iv y145.1, iv y145.2.1]) (by kernel_rfl) (pu (iv y145.2.2) (by kernel_rfl) (seq_c (s_allocI hI [iv 0, iv 0] Try.zeroValue28 rfl ?_))))
 intro b147 w hI
 refine seq_c (s_store hI 0 2 [iv y145.1, iv y145.2.1] Try.sizeOf28 rfl rfl rfl rfl rfl (Nat.le_of_ble_eq_true rfl) ?_)
 intro w hI
 refine pu (iv y145.2.2) (by kernel_rfl) (seq_nil (wp_seq (rgn (by kernel_rfl) (bindE hF (fun y150 hy151 hF => ?_)))))
 refine seq_c (s_callv hI 34 [iv 25, iv 8] (.tuple #[iv y150.1, iv y150.2]) (by kernel_rfl) (L34 _ 25 8 _ hy151) ?_)
 intro w hI
 refine pu (.tuple #[iv y150.1, iv y150.2]) (by kernel_rfl) (pu (iv y150.1) (by kernel_rfl) (pu (iv y150.2) (by kernel_rfl) (pu (iv y150.1) (by kernel_rfl) (pu (iv y150.2) (by kernel_rfl) (seq_nil (wp_seq (rgn (by kernel_rfl) (seq_c (s_loadK hI 4 2 [iv y122.1, slv g124 y122.2.length c125] Try.isAgg24 Try.sizeOf24 rfl rfl rfl rfl ?_)))))))))
 refine bindE hF (fun y154 hy155 hF => ?_)
 refine seq_c (s_callv hI 36 [.agg #[iv y122.1, slv g124 y122.2.length c125]] (.tuple #[iv y154.1, iv y154.2]) (by kernel_rfl) (L36 _ y122.1 (g124.map fun b => ⟨b, 0, none⟩) c125 y122.2 (hI.rowCells 5 rfl r127) (len_le rfl r127.big) (len_le rfl r127.cap) N _ hy155) ?_)
 intro w hI
 refine pu (.tuple #[iv y154.1, iv y154.2]) (by kernel_rfl) (pu (iv y154.1) (by kernel_rfl) (pu (iv y154.2) (by kernel_rfl) (pu (iv y154.1) (by kernel_rfl) (pu (iv y154.2) (by kernel_rfl) (seq_nil (wp_seq (rgn (by kernel_rfl) (seq_c (s_loadK hI 4 2 [iv y122.1, slv g124 y122.2.length c125] Try.isAgg24 Try.sizeOf24 rfl rfl rfl rfl ?_)))))))))
 refine bindE hF (fun y162 hy163 hF => ?_)
 refine seq_c (s_call 38 [.agg #[iv y122.1, slv g124 y122.2.length c125]] (by kernel_rfl) (L38 _ y122.1 (g124.map fun b => ⟨b, 0, none⟩) c125 y122.2 (hI.rowCells 5 rfl r127) (len_le rfl r127.big) (len_le rfl r127.cap) N _ hy163) ?_)
 rintro v w ⟨g164, c165, cl166, rfl, hN, r167⟩
 have hI := hI.join hN; clear hN
 refine pu (.tuple #[slv g164 y162.1.length c165, iv y162.2]) (by kernel_rfl) (pu (slv g164 y162.1.length c165) (by kernel_rfl) (pu (iv y162.2) (by kernel_rfl) (pu (slv g164 y162.1.length c165) (by kernel_rfl) (pu (iv y162.2) (by kernel_rfl) (seq_nil (wp_seq (rgn (by kernel_rfl) (seq_c (s_loadK hI 5 2 [iv y122.1, slv g124 y122.2.length c125] Try.isAgg24 Try.sizeOf24 rfl rfl rfl rfl ?_)))))))))
 refine seq_c (s_new hI [iv 2, iv 1, iv 2, iv 1] 3 (fun b => slv (some b) 4 4) (by kernel_rfl) ?_)
 intro b171 w hI
 refine bindE hF (fun y172 hy173 hF => ?_)
 refine seq_c (s_callv hI 44 [.agg #[iv y122.1, slv g124 y122.2.length c125], .slice (some ⟨b171, 0, none⟩) 4 4] (.tuple #[.bool y172.1, iv y172.2]) (by kernel_rfl) (L44 _ y122.1 (g124.map fun b => ⟨b, 0, none⟩) c125 y122.2 (some ⟨b171, 0, none⟩) 4 [2, 1, 2, 1] (hI.rowCells 7 rfl r127) (len_le rfl r127.big) (len_le rfl r127.cap) (hI.cells 0 (off := 0) rfl (fun j u h => by rw [Nat.zero_add]; exact h)) (Nat.le_of_ble_eq_true rfl) (Nat.le_refl _) N _ hy173) ?_)
 intro w hI
 refine pu (.tuple #[.bool y172.1, iv y172.2]) (by kernel_rfl) (pu (.bool y172.1) (by kernel_rfl) (pu (iv y172.2) (by kernel_rfl) (pu (.bool y172.1) (by kernel_rfl) (pu (iv y172.2) (by kernel_rfl) (seq_nil (wp_seq (rgn (by kernel_rfl) (seq_c (s_loadK hI 6 2 [iv y122.1, slv g124 y122.2.length c125] Try.isAgg24 Try.sizeOf24 rfl rfl rfl rfl ?_)))))))))
 refine bindE hF (fun y176 hy177 hF => ?_)
 refine seq_c (s_callv hI 53 [.agg #[iv y122.1, slv g124 y122.2.length c125], iv 9, iv 3] (.tuple #[iv y176.1, iv y176.2]) (by kernel_rfl) (L53 _ y122.1 (g124.map fun b => ⟨b, 0, none⟩) c125 y122.2 9 3 (hI.rowCells 7 rfl r127) (len_le rfl r127.big) (len_le rfl r127.cap) N _ hy177) ?_)
 intro w hI
 refine pu (.tuple #[iv y176.1, iv y176.2]) (by kernel_rfl) (pu (iv y176.1) (by kernel_rfl) (pu (iv y176.2) (by kernel_rfl) (pu (iv y176.1) (by kernel_rfl) (pu (iv y176.2) (by kernel_rfl) (seq_nil (wp_seq (rgn (by kernel_rfl) (seq_c (s_loadK hI 6 2 [iv y122.1, slv g124 y122.2.length c125] Try.isAgg24 Try.sizeOf24 rfl rfl rfl rfl ?_)))))))))
 refine bindE hF (fun y184 hy185 hF => ?_)
 refine seq_c (s_call 55 [.agg #[iv y122.1, slv g124 y122.2.length c125]] (by kernel_rfl) (L55 _ y122.1 (g124.map fun b => ⟨b, 0, none⟩) c125 y122.2 (hI.rowCells 7 rfl r127) (len_le rfl r127.big) (len_le rfl r127.cap) N _ hy185) ?_)
 rintro v w ⟨g186, c187, cl188, rfl, hN, r189⟩
 have hI := hI.join hN; clear hN
 refine pu (.tuple #[slv g186 y184.1.length c187, iv y184.2]) (by kernel_rfl) (pu (slv g186 y184.1.length c187) (by kernel_rfl) (pu (iv y184.2) (by kernel_rfl) (pu (slv g186 y184.1.length c187) (by kernel_rfl) (pu (iv y184.2) (by kernel_rfl) (seq_nil (wp_seq (rgn (by kernel_rfl) (seq_c (s_loadK hI 7 2 [iv y122.1, slv g124 y122.2.length c125] Try.isAgg24 Try.sizeOf24 rfl rfl rfl rfl ?_)))))))))
 refine bindE hF (fun y196 hy197 hF => ?_)
 refine seq_c (s_call 57 [.agg #[iv y122.1, slv g124 y122.2.length c125], iv 2] (by kernel_rfl) (L57 _ y122.1 (g124.map fun b => ⟨b, 0, none⟩) c125 y122.2 2 (hI.rowCells 8 rfl r127) (len_le rfl r127.big) (len_le rfl r127.cap) N _ hy197) ?_)
 rintro v w ⟨g198, c199, cl200, rfl, hN, r201⟩
 have hI := hI.join hN; clear hN
 refine pu (.tuple #[slv g198 y196.1.length c199, iv y196.2]) (by kernel_rfl) (pu (slv g198 y196.1.length c199) (by kernel_rfl) (pu (iv y196.2) (by kernel_rfl) (pu (slv g198 y196.1.length c199) (by kernel_rfl) (pu (iv y196.2) (by kernel_rfl) (seq_nil (wp_cutO (fun ρ w => ∃ (v202 : Bool), Agree ρ [(1, .pointer (some ⟨b128, 0, none⟩)), (3, .pointer (some ⟨b135, 0, none⟩)), (5, .pointer (some ⟨b141, 0, none⟩)), (7, .pointer (some ⟨b147, 0, none⟩)), (9, iv y150.1), (11, iv y154.1), (13, slv g164 y162.1.length c165), (15, .bool y172.1), (17, iv y176.1), (19, slv g186 y184.1.length c187), (21, slv g198 y196.1.length c199), (23, .bool v202)] ∧ Inv [] w0 w [(some b128, blk [iv y122.1, slv g124 y122.2.length c125] 24), (g124, blk cl126 26), (some b135, blk [iv y133.1, iv y133.2.1] 28), (some b141, blk [iv y139.1, iv y139.2.1] 28), (some b147, blk [iv y145.1, iv y145.2.1] 28), (g164, blk cl166 3), (g186, blk cl188 3), (g198, blk cl200 3)] ∧ F25j1 N y122 y133 y139 y145 y150 y154 y162 y172 y176 y184 y196 v202 = some r) ?_ ?_))))))
 ·
  refine rgn (by kernel_rfl) (pu (iv y133.2.2) (by kernel_rfl) (ifE hF (fun h75 hF => ?_) (fun h75 hF => ?_)))
  ·
   refine seq_c (s_eql rfl rfl (fun _ => ?_) (fun h => absurd (a := y133.2.2 = 0) h75 h))
   refine pu (.bool true) (by kernel_rfl) (puo (iv y139.2.2) ⟨(by kernel_rfl), (by kernel_rfl)⟩ (ifE hF (fun h76 hF => ?_) (fun h76 hF => ?_)))
   ·
    refine seq_on (by kernel_rfl) (s_eql rfl rfl (fun _ => ?_) (fun h => absurd (a := y139.2.2 = 0) h76 h))
    refine pu (.bool true) (by kernel_rfl) (pu (.bool true) (by kernel_rfl) (puo (iv y145.2.2) ⟨(by kernel_rfl), (by kernel_rfl)⟩ (ifE hF (fun h77 hF => ?_) (fun h77 hF => ?_))))
    ·
     refine seq_on (by kernel_rfl) (s_eql rfl rfl (fun _ => ?_) (fun h => absurd (a := y145.2.2 = 0) h77 h))
     refine pu (.bool true) (by kernel_rfl) (pu (.bool true) (by kernel_rfl) (puo (iv y150.2) ⟨(by kernel_rfl), (by kernel_rfl)⟩ (ifE hF (fun h78 hF => ?_) (fun h78 hF => ?_))))
     ·
      refine seq_on (by kernel_rfl) (s_eql rfl rfl (fun _ => ?_) (fun h => absurd (a := y150.2 = 0) h78 h))
      refine pu (.bool true) (by kernel_rfl) (pu (.bool true) (by kernel_rfl) (puo (iv y154.2) ⟨(by kernel_rfl), (by kernel_rfl)⟩ (ifE hF (fun h79 hF => ?_) (fun h79 hF => ?_))))
      ·
       refine seq_on (by kernel_rfl) (s_eql rfl rfl (fun _ => ?_) (fun h => absurd (a := y154.2 = 0) h79 h))
       refine pu (.bool true) (by kernel_rfl) (pu (.bool true) (by kernel_rfl) (puo (iv y162.2) ⟨(by kernel_rfl), (by kernel_rfl)⟩ (ifE hF (fun h80 hF => ?_) (fun h80 hF => ?_))))
       ·
        refine seq_on (by kernel_rfl) (s_eql rfl rfl (fun _ => ?_) (fun h => absurd (a := y162.2 = 0) h80 h))
        refine pu (.bool true) (by kernel_rfl) (pu (.bool true) (by kernel_rfl) (puo (iv y172.2) ⟨(by kernel_rfl), (by kernel_rfl)⟩ (ifE hF (fun h81 hF => ?_) (fun h81 hF => ?_))))
        ·
         refine seq_on (by kernel_rfl) (s_eql rfl rfl (fun _ => ?_) (fun h => absurd (a := y172.2 = 0) h81 h))
         refine pu (.bool true) (by kernel_rfl) (pu (.bool true) (by kernel_rfl) (puo (iv y176.2) ⟨(by kernel_rfl), (by kernel_rfl)⟩ (ifE hF (fun h82 hF => ?_) (fun h82 hF => ?_))))
         ·
          refine seq_on (by kernel_rfl) (s_eql rfl rfl (fun _ => ?_) (fun h => absurd (a := y176.2 = 0) h82 h))
          refine pu (.bool true) (by kernel_rfl) (pu (.bool true) (by kernel_rfl) (puo (iv y184.2) ⟨(by kernel_rfl), (by kernel_rfl)⟩ (ifE hF (fun h83 hF => ?_) (fun h83 hF => ?_))))
          ·
           refine seq_on (by kernel_rfl) (s_eql rfl rfl (fun _ => ?_) (fun h => absurd (a := y184.2 = 0) h83 h))
           refine pu (.bool true) (by kernel_rfl) (pu (.bool true) (by kernel_rfl) (puo (iv y196.2) ⟨(by kernel_rfl), (by kernel_rfl)⟩ (ifE hF (fun h84 hF => ?_) (fun h84 hF => ?_))))
           ·
            refine seq_on (by kernel_rfl) (s_eql rfl rfl (fun _ => ?_) (fun h => absurd (a := y196.2 = 0) h84 h))
            refine pu (.bool true) (by kernel_rfl) (pu (.bool true) (by kernel_rfl) (seq_nil ?_))
            exact .inl ⟨rfl, ⟨true, ⟨rfl, rfl, rfl, rfl, rfl, rfl, rfl, rfl, rfl, rfl, rfl, rfl, trivial⟩, hI.pickL [8, 9, 6, 5, 4, 3, 1, 0] (by decide) rfl, hF⟩⟩
           ·
            refine seq_on (by kernel_rfl) (s_eql rfl rfl (fun h => absurd (a := y196.2 = 0) h h84) (fun _ => ?_))
            refine pu (.bool false) (by kernel_rfl) (pu (.bool false) (by kernel_rfl) (seq_nil ?_))
            exact .inl ⟨rfl, ⟨false, ⟨rfl, rfl, rfl, rfl, rfl, rfl, rfl, rfl, rfl, rfl, rfl, rfl, trivial⟩, hI.pickL [8, 9, 6, 5, 4, 3, 1, 0] (by decide) rfl, hF⟩⟩
          ·
           refine seq_on (by kernel_rfl) (s_eql rfl rfl (fun h => absurd (a := y184.2 = 0) h h83) (fun _ => ?_))
           refine pu (.bool false) (by kernel_rfl) (pu (.bool false) (by kernel_rfl) (of_ (by kernel_rfl) (of_ (by kernel_rfl) (pu (.bool false) (by kernel_rfl) (pu (.bool false) (by kernel_rfl) (seq_nil ?_))))))
           exact .inl ⟨rfl, ⟨false, ⟨rfl, rfl, rfl, rfl, rfl, rfl, rfl, rfl, rfl, rfl, rfl, rfl, trivial⟩, hI.pickL [8, 9, 6, 5, 4, 3, 1, 0] (by decide) rfl, hF⟩⟩
         ·
          refine seq_on (by kernel_rfl) (s_eql rfl rfl (fun h => absurd (a := y176.2 = 0) h h82) (fun _ => ?_))
          refine pu (.bool false) (by kernel_rfl) (pu (.bool false) (by kernel_rfl) (of_ (by kernel_rfl) (of_ (by kernel_rfl) (pu (.bool false) (by kernel_rfl) (pu (.bool false) (by kernel_rfl) (of_ (by kernel_rfl) (of_ (by kernel_rfl) (pu (.bool false) (by kernel_rfl) (pu (.bool false) (by kernel_rfl) ?_)))))))))
          refine seq_nil ?_
          exact .inl ⟨rfl, ⟨false, ⟨rfl, rfl, rfl, rfl, rfl, rfl, rfl, rfl, rfl, rfl, rfl, rfl, trivial⟩, hI.pickL [8, 9, 6, 5, 4, 3, 1, 0] (by decide) rfl, hF⟩⟩
        ·
         refine seq_on (by kernel_rfl) (s_eql rfl rfl (fun h => absurd (a := y172.2 = 0) h h81) (fun _ => ?_))
         refine pu (.bool false) (by kernel_rfl) (pu (.bool false) (by kernel_rfl) (of_ (by kernel_rfl) (of_ (by kernel_rfl) (pu (.bool false) (by kernel_rfl) (pu (.bool false) (by kernel_rfl) (of_ (by kernel_rfl) (of_ (by kernel_rfl) (pu (.bool false) (by kernel_rfl) (pu (.bool false) (by kernel_rfl) ?_)))))))))
         refine of_ (by kernel_rfl) (of_ (by kernel_rfl) (pu (.bool false) (by kernel_rfl) (pu (.bool false) (by kernel_rfl) (seq_nil ?_))))
         exact .inl ⟨rfl, ⟨false, ⟨rfl, rfl, rfl, rfl, rfl, rfl, rfl, rfl, rfl, rfl, rfl, rfl, trivial⟩, hI.pickL [8, 9, 6, 5, 4, 3, 1, 0] (by decide) rfl, hF⟩⟩
       ·
        refine seq_on (by kernel_rfl) (s_eql rfl rfl (fun h => absurd (a := y162.2 = 0) h h80) (fun _ => ?_))
        refine pu (.bool false) (by kernel_rfl) (pu (.bool false) (by kernel_rfl) (of_ (by kernel_rfl) (of_ (by kernel_rfl) (pu (.bool false) (by kernel_rfl) (pu (.bool false) (by kernel_rfl) (of_ (by kernel_rfl) (of_ (by kernel_rfl) (pu (.bool false) (by kernel_rfl) (pu (.bool false) (by kernel_rfl) ?_)))))))))
        refine of_ (by kernel_rfl) (of_ (by kernel_rfl) (pu (.bool false) (by kernel_rfl) (pu (.bool false) (by kernel_rfl) (of_ (by kernel_rfl) (of_ (by kernel_rfl) (pu (.bool false) (by kernel_rfl) (pu (.bool false) (by kernel_rfl) (seq_nil ?_))))))))
        exact .inl ⟨rfl, ⟨false, ⟨rfl, rfl, rfl, rfl, rfl, rfl, rfl, rfl, rfl, rfl, rfl, rfl, trivial⟩, hI.pickL [8, 9, 6, 5, 4, 3, 1, 0] (by decide) rfl, hF⟩⟩
      ·
       refine seq_on (by kernel_rfl) (s_eql rfl rfl (fun h => absurd (a := y154.2 = 0) h h79) (fun _ => ?_))
       refine pu (.bool false) (by kernel_rfl) (pu (.bool false) (by kernel_rfl) (of_ (by kernel_rfl) (of_ (by kernel_rfl) (pu (.bool false) (by kernel_rfl) (pu (.bool false) (by kernel_rfl) (of_ (by kernel_rfl) (of_ (by kernel_rfl) (pu (.bool false) (by kernel_rfl) (pu (.bool false) (by kernel_rfl) ?_)))))))))
       refine of_ (by kernel_rfl) (of_ (by kernel_rfl) (pu (.bool false) (by kernel_rfl) (pu (.bool false) (by kernel_rfl) (of_ (by kernel_rfl) (of_ (by kernel_rfl) (pu (.bool false) (by kernel_rfl) (pu (.bool false) (by kernel_rfl) (of_ (by kernel_rfl) (of_ (by kernel_rfl) ?_)))))))))
       refine pu (.bool false) (by kernel_rfl) (pu (.bool false) (by kernel_rfl) (seq_nil ?_))
       exact .inl ⟨rfl, ⟨false, ⟨rfl, rfl, rfl, rfl, rfl, rfl, rfl, rfl, rfl, rfl, rfl, rfl, trivial⟩, hI.pickL [8, 9, 6, 5, 4, 3, 1, 0] (by decide) rfl, hF⟩⟩
     ·
      refine seq_on (by kernel_rfl) (s_eql rfl rfl (fun h => absurd (a := y150.2 = 0) h h78) (fun _ => ?_))
      refine pu (.bool false) (by kernel_rfl) (pu (.bool false) (by kernel_rfl) (of_ (by kernel_rfl) (of_ (by kernel_rfl) (pu (.bool false) (by kernel_rfl) (pu (.bool false) (by kernel_rfl) (of_ (by kernel_rfl) (of_ (by kernel_rfl) (pu (.bool false) (by kernel_rfl) (pu (.bool false) (by kernel_rfl) ?_)))))))))
      refine of_ (by kernel_rfl) (of_ (by kernel_rfl) (pu (.bool false) (by kernel_rfl) (pu (.bool false) (by kernel_rfl) (of_ (by kernel_rfl) (of_ (by kernel_rfl) (pu (.bool false) (by kernel_rfl) (pu (.bool false) (by kernel_rfl) (of_ (by kernel_rfl) (of_ (by kernel_rfl) ?_)))))))))
      refine pu (.bool false) (by kernel_rfl) (pu (.bool false) (by kernel_rfl) (of_ (by kernel_rfl) (of_ (by kernel_rfl) (pu (.bool false) (by kernel_rfl) (pu (.bool false) (by kernel_rfl) (seq_nil ?_))))))
      exact .inl ⟨rfl, ⟨false, ⟨rfl, rfl, rfl, rfl, rfl, rfl, rfl, rfl, rfl, rfl, rfl, rfl, trivial⟩, hI.pickL [8, 9, 6, 5, 4, 3, 1, 0] (by decide) rfl, hF⟩⟩
    ·
     refine seq_on (by kernel_rfl) (s_eql rfl rfl (fun h => absurd (a := y145.2.2 = 0) h h77) (fun _ => ?_))
     refine pu (.bool false) (by kernel_rfl) (pu (.bool false) (by kernel_rfl) (of_ (by kernel_rfl) (of_ (by kernel_rfl) (pu (.bool false) (by kernel_rfl) (pu (.bool false) (by kernel_rfl) (of_ (by kernel_rfl) (of_ (by kernel_rfl) (pu (.bool false) (by kernel_rfl) (pu (.bool false) (by kernel_rfl) ?_)))))))))
     refine of_ (by kernel_rfl) (of_ (by kernel_rfl) (pu (.bool false) (by kernel_rfl) (pu (.bool false) (by kernel_rfl) (of_ (by kernel_rfl) (of_ (by kernel_rfl) (pu (.bool false) (by kernel_rfl) (pu (.bool false) (by kernel_rfl) (of_ (by kernel_rfl) (of_ (by kernel_rfl) ?_)))))))))
     refine pu (.bool false) (by kernel_rfl) (pu (.bool false) (by kernel_rfl) (of_ (by kernel_rfl) (of_ (by kernel_rfl) (pu (.bool false) (by kernel_rfl) (pu (.bool false) (by kernel_rfl) (of_ (by kernel_rfl) (of_ (by kernel_rfl) (pu (.bool false) (by kernel_rfl) (pu (.bool false) (by kernel_rfl) ?_)))))))))
     refine seq_nil ?_
     exact .inl ⟨rfl, ⟨false, ⟨rfl, rfl, rfl, rfl, rfl, rfl, rfl, rfl, rfl, rfl, rfl, rfl, trivial⟩, hI.pickL [8, 9, 6, 5, 4, 3, 1, 0] (by decide) rfl, hF⟩⟩
   ·
    refine seq_on (by kernel_rfl) (s_eql rfl rfl (fun h => absurd (a := y139.2.2 = 0) h h76) (fun _ => ?_))
    refine pu (.bool false) (by kernel_rfl) (pu (.bool false) (by kernel_rfl) (of_ (by kernel_rfl) (of_ (by kernel_rfl) (pu (.bool false) (by kernel_rfl) (pu (.bool false) (by kernel_rfl) (of_ (by kernel_rfl) (of_ (by kernel_rfl) (pu (.bool false) (by kernel_rfl) (pu (.bool false) (by kernel_rfl) ?_)))))))))
    refine of_ (by kernel_rfl) (of_ (by kernel_rfl) (pu (.bool false) (by kernel_rfl) (pu (.bool false) (by kernel_rfl) (of_ (by kernel_rfl) (of_ (by kernel_rfl) (pu (.bool false) (by kernel_rfl) (pu (.bool false) (by kernel_rfl) (of_ (by kernel_rfl) (of_ (by kernel_rfl) ?_)))))))))
    refine pu (.bool false) (by kernel_rfl) (pu (.bool false) (by kernel_rfl) (of_ (by kernel_rfl) (of_ (by kernel_rfl) (pu (.bool false) (by kernel_rfl) (pu (.bool false) (by kernel_rfl) (of_ (by kernel_rfl) (of_ (by kernel_rfl) (pu (.bool false) (by kernel_rfl) (pu (.bool false) (by kernel_rfl) ?_)))))))))
    refine of_ (by kernel_rfl) (of_ (by kernel_rfl) (pu (.bool false) (by kernel_rfl) (pu (.bool false) (by kernel_rfl) (seq_nil ?_))))
    exact .inl ⟨rfl, ⟨false, ⟨rfl, rfl, rfl, rfl, rfl, rfl, rfl, rfl, rfl, rfl, rfl, rfl, trivial⟩, hI.pickL [8, 9, 6, 5, 4, 3, 1, 0] (by decide) rfl, hF⟩⟩
  ·
   refine seq_c (s_eql rfl rfl (fun h => absurd (a := y133.2.2 = 0) h h75) (fun _ => ?_))
   refine pu (.bool false) (by kernel_rfl) (of_ (by kernel_rfl) (of_ (by kernel_rfl) (pu (.bool false) (by kernel_rfl) (pu (.bool false) (by kernel_rfl) (of_ (by kernel_rfl) (of_ (by kernel_rfl) (pu (.bool false) (by kernel_rfl) (pu (.bool false) (by kernel_rfl) (of_ (by kernel_rfl) ?_)))))))))
   refine of_ (by kernel_rfl) (pu (.bool false) (by kernel_rfl) (pu (.bool false) (by kernel_rfl) (of_ (by kernel_rfl) (of_ (by kernel_rfl) (pu (.bool false) (by kernel_rfl) (pu (.bool false) (by kernel_rfl) (of_ (by kernel_rfl) (of_ (by kernel_rfl) (pu (.bool false) (by kernel_rfl) ?_)))))))))
   refine pu (.bool false) (by kernel_rfl) (of_ (by kernel_rfl) (of_ (by kernel_rfl) (pu (.bool false) (by kernel_rfl) (pu (.bool false) (by kernel_rfl) (of_ (by kernel_rfl) (of_ (by kernel_rfl) (pu (.bool false) (by kernel_rfl) (pu (.bool false) (by kernel_rfl) (of_ (by kernel_rfl) ?_)))))))))
   refine of_ (by kernel_rfl) (pu (.bool false) (by kernel_rfl) (pu (.bool false) (by kernel_rfl) (of_ (by kernel_rfl) (of_ (by kernel_rfl) (pu (.bool false) (by kernel_rfl) (pu (.bool false) (by kernel_rfl) (seq_nil ?_)))))))
   exact .inl ⟨rfl, ⟨false, ⟨rfl, rfl, rfl, rfl, rfl, rfl, rfl, rfl, rfl, rfl, rfl, rfl, trivial⟩, hI.pickL [8, 9, 6, 5, 4, 3, 1, 0] (by decide) rfl, hF⟩⟩
 ·intro ρ w hJ
  obtain ⟨v202, hag, hI, hF⟩ := hJ
  obtain ⟨ρ, rfl⟩ := hag.form; clear hag
  unfold F25j1 at hF
  refine wp_cutO (fun ρ w => ∃ (v206 : Bool), Agree ρ [(1, .pointer (some ⟨b128, 0, none⟩)), (17, iv y176.1), (19, slv g186 y184.1.length c187), (21, slv g198 y196.1.length c199), (23, .bool v202), (24, .bool v206)] ∧ Inv [] w0 w [(some b128, blk [iv y122.1, slv g124 y122.2.length c125] 24), (g124, blk cl126 26), (g186, blk cl188 3), (g198, blk cl200 3)] ∧ F25j2 N y122 y176 y184 y196 v202 v206 = some r) ?_ ?_
  ·
   refine rgn (by kernel_rfl) (seq_c (s_loadK hI 2 2 [iv y133.1, iv y133.2.1] Try.isAgg28 Try.sizeOf28 rfl rfl rfl rfl ?_))
   refine pu (.agg #[iv 4, iv 21]) (by kernel_rfl) (ifE hF (fun h68 hF => ?_) (fun h68 hF => ?_))
   ·
    refine seq_c (s_eqlA (b := decide (y133.1 = 4) && decide (y133.2.1 = 21)) rfl rfl (by kernel_rfl) (fun w => eq28 _ y133.1 y133.2.1 4 21 w) (fun _ => ?_) (fun h => absurd (a := (decide (y133.1 = 4) && decide (y133.2.1 = 21)) = true) h68 h))
    refine pu (.bool true) (by kernel_rfl) (seq_on (by kernel_rfl) (s_loadK hI 3 2 [iv y139.1, iv y139.2.1] Try.isAgg28 Try.sizeOf28 rfl rfl rfl rfl ?_))
    refine puo (.agg #[iv 15, iv 23]) ⟨(by kernel_rfl), (by kernel_rfl)⟩ (ifE hF (fun h69 hF => ?_) (fun h69 hF => ?_))
    ·
     refine seq_on (by kernel_rfl) (s_eqlA (b := decide (y139.1 = 15) && decide (y139.2.1 = 23)) rfl rfl (by kernel_rfl) (fun w => eq28 _ y139.1 y139.2.1 15 23 w) (fun _ => ?_) (fun h => absurd (a := (decide (y139.1 = 15) && decide (y139.2.1 = 23)) = true) h69 h))
     refine pu (.bool true) (by kernel_rfl) (pu (.bool true) (by kernel_rfl) (seq_on (by kernel_rfl) (s_loadK hI 4 2 [iv y145.1, iv y145.2.1] Try.isAgg28 Try.sizeOf28 rfl rfl rfl rfl ?_)))
     refine puo (.agg #[iv 7, iv 12]) ⟨(by kernel_rfl), (by kernel_rfl)⟩ (ifE hF (fun h70 hF => ?_) (fun h70 hF => ?_))
     ·
      refine seq_on (by kernel_rfl) (s_eqlA (b := decide (y145.1 = 7) && decide (y145.2.1 = 12)) rfl rfl (by kernel_rfl) (fun w => eq28 _ y145.1 y145.2.1 7 12 w) (fun _ => ?_) (fun h => absurd (a := (decide (y145.1 = 7) && decide (y145.2.1 = 12)) = true) h70 h))
      refine pu (.bool true) (by kernel_rfl) (pu (.bool true) (by kernel_rfl) (puo (iv y150.1) ⟨(by kernel_rfl), (by kernel_rfl)⟩ (ifE hF (fun h71 hF => ?_) (fun h71 hF => ?_))))
      ·
       refine seq_on (by kernel_rfl) (s_eql rfl rfl (fun _ => ?_) (fun h => absurd (a := y150.1 = 4) h71 h))
       refine pu (.bool true) (by kernel_rfl) (pu (.bool true) (by kernel_rfl) (puo (iv y154.1) ⟨(by kernel_rfl), (by kernel_rfl)⟩ (ifE hF (fun h72 hF => ?_) (fun h72 hF => ?_))))
       ·
        refine seq_on (by kernel_rfl) (s_eql rfl rfl (fun _ => ?_) (fun h => absurd (a := y154.1 = 1) h72 h))
        refine pu (.bool true) (by kernel_rfl) (pu (.bool true) (by kernel_rfl) (puo (slv g164 y162.1.length c165) ⟨(by kernel_rfl), (by kernel_rfl)⟩ (seq_on (by kernel_rfl) (s_new hI [iv 2, iv 1, iv 1, iv 1] 3 (fun b => slv (some b) 4 4) (by kernel_rfl) ?_))))
        intro b226 w hI
        refine bindE hF (fun y227 hy228 hF => ?_)
        refine ifE hF (fun h73 hF => ?_) (fun h73 hF => ?_)
        ·
         refine seq_on (by kernel_rfl) (s_callv hI 41 [slv g164 y162.1.length c165, .slice (some ⟨b226, 0, none⟩) 4 4] (.bool true) (by kernel_rfl) (Does.mono (L41 _ (g164.map fun b => ⟨b, 0, none⟩) c165 y162.1 (some ⟨b226, 0, none⟩) 4 [2, 1, 1, 1] (hI.rowCells 6 rfl r167) (len_le rfl r167.big) (len_le rfl r167.cap) (hI.cells 0 (off := 0) rfl (fun j u h => by rw [Nat.zero_add]; exact h)) (Nat.le_of_ble_eq_true rfl) (Nat.le_refl _) N _ hy228) (fun v' w' h => ⟨h.1.trans (congrArg Value.bool h73), h.2⟩)) ?_)
         intro w hI
         refine pu (.bool true) (by kernel_rfl) (pu (.bool true) (by kernel_rfl) (puo (.bool y172.1) ⟨(by kernel_rfl), (by kernel_rfl)⟩ (ifE hF (fun h74 hF => ?_) (fun h74 hF => ?_))))
         ·
          refine seq_on (by kernel_rfl) (s_not (a := true) (congrArg Value.bool h74) ?_)
          refine pu (.bool false) (by kernel_rfl) (pu (.bool false) (by kernel_rfl) (seq_nil ?_))
          exact .inl ⟨rfl, ⟨false, ⟨rfl, rfl, rfl, rfl, rfl, rfl, trivial⟩, hI.pickL [1, 2, 7, 8] (by decide) rfl, hF⟩⟩
         ·
          refine seq_on (by kernel_rfl) (s_not (a := false) (congrArg Value.bool (Bool.eq_false_iff.2 h74)) ?_)
          refine pu (.bool true) (by kernel_rfl) (pu (.bool true) (by kernel_rfl) (seq_nil ?_))
          exact .inl ⟨rfl, ⟨true, ⟨rfl, rfl, rfl, rfl, rfl, rfl, trivial⟩, hI.pickL [1, 2, 7, 8] (by decide) rfl, hF⟩⟩
        ·
         refine seq_on (by kernel_rfl) (s_callv hI 41 [slv g164 y162.1.length c165, .slice (some ⟨b226, 0, none⟩) 4 4] (.bool false) (by kernel_rfl) (Does.mono (L41 _ (g164.map fun b => ⟨b, 0, none⟩) c165 y162.1 (some ⟨b226, 0, none⟩) 4 [2, 1, 1, 1] (hI.rowCells 6 rfl r167) (len_le rfl r167.big) (len_le rfl r167.cap) (hI.cells 0 (off := 0) rfl (fun j u h => by rw [Nat.zero_add]; exact h)) (Nat.le_of_ble_eq_true rfl) (Nat.le_refl _) N _ hy228) (fun v' w' h => ⟨h.1.trans (congrArg Value.bool (Bool.eq_false_iff.2 h73)), h.2⟩)) ?_)
         intro w hI
         refine pu (.bool false) (by kernel_rfl) (pu (.bool false) (by kernel_rfl) (of_ (by kernel_rfl) (of_ (by kernel_rfl) (pu (.bool false) (by kernel_rfl) (pu (.bool false) (by kernel_rfl) (seq_nil ?_))))))
         exact .inl ⟨rfl, ⟨false, ⟨rfl, rfl, rfl, rfl, rfl, rfl, trivial⟩, hI.pickL [1, 2, 7, 8] (by decide) rfl, hF⟩⟩
       ·
        refine seq_on (by kernel_rfl) (s_eql rfl rfl (fun h => absurd (a := y154.1 = 1) h h72) (fun _ => ?_))
        refine pu (.bool false) (by kernel_rfl) (pu (.bool false) (by kernel_rfl) (of_ (by kernel_rfl) (of_ (by kernel_rfl) (of_ (by kernel_rfl) (pu (.bool false) (by kernel_rfl) (pu (.bool false) (by kernel_rfl) (of_ (by kernel_rfl) (of_ (by kernel_rfl) (pu (.bool false) (by kernel_rfl) ?_)))))))))
        refine pu (.bool false) (by kernel_rfl) (seq_nil ?_)
        exact .inl ⟨rfl, ⟨false, ⟨rfl, rfl, rfl, rfl, rfl, rfl, trivial⟩, hI.pickL [0, 1, 6, 7] (by decide) rfl, hF⟩⟩
      ·
       refine seq_on (by kernel_rfl) (s_eql rfl rfl (fun h => absurd (a := y150.1 = 4) h h71) (fun _ => ?_))
       refine pu (.bool false) (by kernel_rfl) (pu (.bool false) (by kernel_rfl) (of_ (by kernel_rfl) (of_ (by kernel_rfl) (pu (.bool false) (by kernel_rfl) (pu (.bool false) (by kernel_rfl) (of_ (by kernel_rfl) (of_ (by kernel_rfl) (of_ (by kernel_rfl) (pu (.bool false) (by kernel_rfl) ?_)))))))))
       refine pu (.bool false) (by kernel_rfl) (of_ (by kernel_rfl) (of_ (by kernel_rfl) (pu (.bool false) (by kernel_rfl) (pu (.bool false) (by kernel_rfl) (seq_nil ?_)))))
       exact .inl ⟨rfl, ⟨false, ⟨rfl, rfl, rfl, rfl, rfl, rfl, trivial⟩, hI.pickL [0, 1, 6, 7] (by decide) rfl, hF⟩⟩
     ·
      refine seq_on (by kernel_rfl) (s_eqlA (b := decide (y145.1 = 7) && decide (y145.2.1 = 12)) rfl rfl (by kernel_rfl) (fun w => eq28 _ y145.1 y145.2.1 7 12 w) (fun h => absurd (a := (decide (y145.1 = 7) && decide (y145.2.1 = 12)) = true) h h70) (fun _ => ?_))
      refine pu (.bool false) (by kernel_rfl) (pu (.bool false) (by kernel_rfl) (of_ (by kernel_rfl) (of_ (by kernel_rfl) (pu (.bool false) (by kernel_rfl) (pu (.bool false) (by kernel_rfl) (of_ (by kernel_rfl) (of_ (by kernel_rfl) (pu (.bool false) (by kernel_rfl) (pu (.bool false) (by kernel_rfl) ?_)))))))))
      refine of_ (by kernel_rfl) (of_ (by kernel_rfl) (of_ (by kernel_rfl) (pu (.bool false) (by kernel_rfl) (pu (.bool false) (by kernel_rfl) (of_ (by kernel_rfl) (of_ (by kernel_rfl) (pu (.bool false) (by kernel_rfl) (pu (.bool false) (by kernel_rfl) (seq_nil ?_)))))))))
      exact .inl ⟨rfl, ⟨false, ⟨rfl, rfl, rfl, rfl, rfl, rfl, trivial⟩, hI.pickL [0, 1, 6, 7] (by decide) rfl, hF⟩⟩
    ·
     refine seq_on (by kernel_rfl) (s_eqlA (b := decide (y139.1 = 15) && decide (y139.2.1 = 23)) rfl rfl (by kernel_rfl) (fun w => eq28 _ y139.1 y139.2.1 15 23 w) (fun h => absurd (a := (decide (y139.1 = 15) && decide (y139.2.1 = 23)) = true) h h69) (fun _ => ?_))
     refine pu (.bool false) (by kernel_rfl) (pu (.bool false) (by kernel_rfl) (of_ (by kernel_rfl) (of_ (by kernel_rfl) (of_ (by kernel_rfl) (pu (.bool false) (by kernel_rfl) (pu (.bool false) (by kernel_rfl) (of_ (by kernel_rfl) (of_ (by kernel_rfl) (pu (.bool false) (by kernel_rfl) ?_)))))))))
     refine pu (.bool false) (by kernel_rfl) (of_ (by kernel_rfl) (of_ (by kernel_rfl) (pu (.bool false) (by kernel_rfl) (pu (.bool false) (by kernel_rfl) (of_ (by kernel_rfl) (of_ (by kernel_rfl) (of_ (by kernel_rfl) (pu (.bool false) (by kernel_rfl) (pu (.bool false) (by kernel_rfl) ?_)))))))))
     refine of_ (by kernel_rfl) (of_ (by kernel_rfl) (pu (.bool false) (by kernel_rfl) (pu (.bool false) (by kernel_rfl) (seq_nil ?_))))
     exact .inl ⟨rfl, ⟨false, ⟨rfl, rfl, rfl, rfl, rfl, rfl, trivial⟩, hI.pickL [0, 1, 6, 7] (by decide) rfl, hF⟩⟩
   ·
    refine seq_c (s_eqlA (b := decide (y133.1 = 4) && decide (y133.2.1 = 21)) rfl rfl (by kernel_rfl) (fun w => eq28 _ y133.1 y133.2.1 4 21 w) (fun h => absurd (a := (decide (y133.1 = 4) && decide (y133.2.1 = 21)) = true) h h68) (fun _ => ?_))
    refine pu (.bool false) (by kernel_rfl) (of_ (by kernel_rfl) (of_ (by kernel_rfl) (of_ (by kernel_rfl) (pu (.bool false) (by kernel_rfl) (pu (.bool false) (by kernel_rfl) (of_ (by kernel_rfl) (of_ (by kernel_rfl) (of_ (by kernel_rfl) (pu (.bool false) (by kernel_rfl) ?_)))))))))
    refine pu (.bool false) (by kernel_rfl) (of_ (by kernel_rfl) (of_ (by kernel_rfl) (pu (.bool false) (by kernel_rfl) (pu (.bool false) (by kernel_rfl) (of_ (by kernel_rfl) (of_ (by kernel_rfl) (pu (.bool false) (by kernel_rfl) (pu (.bool false) (by kernel_rfl) (of_ (by kernel_rfl) ?_)))))))))
    refine of_ (by kernel_rfl) (of_ (by kernel_rfl) (pu (.bool false) (by kernel_rfl) (pu (.bool false) (by kernel_rfl) (of_ (by kernel_rfl) (of_ (by kernel_rfl) (pu (.bool false) (by kernel_rfl) (pu (.bool false) (by kernel_rfl) (seq_nil ?_))))))))
    exact .inl ⟨rfl, ⟨false, ⟨rfl, rfl, rfl, rfl, rfl, rfl, trivial⟩, hI.pickL [0, 1, 6, 7] (by decide) rfl, hF⟩⟩
  ·intro ρ w hJ
   obtain ⟨v206, hag, hI, hF⟩ := hJ
   obtain ⟨ρ, rfl⟩ := hag.form; clear hag
   unfold F25j2 at hF
   refine wp_seq ?_
   have hG := hF; rcases Bool.eq_false_or_eq_true v202 with rfl | rfl
   ·
    have hF := hG; clear hG
    refine ifE hF (fun _ hF => ?_) (fun h => absurd rfl h)
    have hG := hF; rcases Bool.eq_false_or_eq_true v206 with rfl | rfl
    ·
     have hF := hG; clear hG
     refine ifE hF (fun _ hF => ?_) (fun h => absurd rfl h)
     refine rgn (by kernel_rfl) (pu (.bool true) (by kernel_rfl) (pu (.bool true) (by kernel_rfl) (puo (.bool true) ⟨(by kernel_rfl), (by kernel_rfl)⟩ (pu (.bool true) (by kernel_rfl) (pu (.bool true) (by kernel_rfl) (puo (iv y176.1) ⟨(by kernel_rfl), (by kernel_rfl)⟩ (ifE hF (fun h64 hF => ?_) (fun h64 hF => ?_))))))))
     ·
      refine seq_on (by kernel_rfl) (s_eql rfl rfl (fun _ => ?_) (fun h => absurd (a := y176.1 = 2) h64 h))
      refine pu (.bool true) (by kernel_rfl) (pu (.bool true) (by kernel_rfl) (puo (slv g186 y184.1.length c187) ⟨(by kernel_rfl), (by kernel_rfl)⟩ (seq_on (by kernel_rfl) (s_new hI [iv 5] 3 (fun b => slv (some b) 1 1) (by kernel_rfl) ?_))))
      intro b217 w hI
      refine bindE hF (fun y218 hy219 hF => ?_)
      refine ifE hF (fun h65 hF => ?_) (fun h65 hF => ?_)
      ·
       refine seq_on (by kernel_rfl) (s_callv hI 41 [slv g186 y184.1.length c187, .slice (some ⟨b217, 0, none⟩) 1 1] (.bool true) (by kernel_rfl) (Does.mono (L41 _ (g186.map fun b => ⟨b, 0, none⟩) c187 y184.1 (some ⟨b217, 0, none⟩) 1 [5] (hI.rowCells 3 rfl r189) (len_le rfl r189.big) (len_le rfl r189.cap) (hI.cells 0 (off := 0) rfl (fun j u h => by rw [Nat.zero_add]; exact h)) (Nat.le_of_ble_eq_true rfl) (Nat.le_refl _) N _ hy219) (fun v' w' h => ⟨h.1.trans (congrArg Value.bool h65), h.2⟩)) ?_)
       intro w hI
       refine pu (.bool true) (by kernel_rfl) (pu (.bool true) (by kernel_rfl) (puo (slv g198 y196.1.length c199) ⟨(by kernel_rfl), (by kernel_rfl)⟩ (seq_on (by kernel_rfl) (s_new hI [iv 9] 3 (fun b => slv (some b) 1 1) (by kernel_rfl) ?_))))
       intro b220 w hI
       refine bindE hF (fun y221 hy222 hF => ?_)
       refine ifE hF (fun h66 hF => ?_) (fun h66 hF => ?_)
       ·
        refine seq_on (by kernel_rfl) (s_callv hI 41 [slv g198 y196.1.length c199, .slice (some ⟨b220, 0, none⟩) 1 1] (.bool true) (by kernel_rfl) (Does.mono (L41 _ (g198.map fun b => ⟨b, 0, none⟩) c199 y196.1 (some ⟨b220, 0, none⟩) 1 [9] (hI.rowCells 5 rfl r201) (len_le rfl r201.big) (len_le rfl r201.cap) (hI.cells 0 (off := 0) rfl (fun j u h => by rw [Nat.zero_add]; exact h)) (Nat.le_of_ble_eq_true rfl) (Nat.le_refl _) N _ hy222) (fun v' w' h => ⟨h.1.trans (congrArg Value.bool h66), h.2⟩)) ?_)
        intro w hI
        refine pu (.bool true) (by kernel_rfl) (pu (.bool true) (by kernel_rfl) (seq_on (by kernel_rfl) (s_loadK hI 2 2 [iv y122.1, slv g124 y122.2.length c125] Try.isAgg24 Try.sizeOf24 rfl rfl rfl rfl ?_)))
        refine seq_on (by kernel_rfl) (s_new hI [iv 7, iv 4, iv 9, iv 2, iv 2, iv 0] 3 (fun b => slv (some b) 6 6) (by kernel_rfl) ?_)
        intro b223 w hI
        refine bindE hF (fun y224 hy225 hF => ?_)
        refine seq_on (by kernel_rfl) (s_callv hI 42 [.agg #[iv y122.1, slv g124 y122.2.length c125], .slice (some ⟨b223, 0, none⟩) 6 6] (iv y224) (by kernel_rfl) (L42 _ y122.1 (g124.map fun b => ⟨b, 0, none⟩) c125 y122.2 (some ⟨b223, 0, none⟩) 6 [7, 4, 9, 2, 2, 0] (hI.rowCells 4 rfl r127) (len_le rfl r127.big) (len_le rfl r127.cap) (hI.cells 0 (off := 0) rfl (fun j u h => by rw [Nat.zero_add]; exact h)) (Nat.le_of_ble_eq_true rfl) (Nat.le_refl _) N _ hy225) ?_)
        intro w hI
        refine ifE hF (fun h67 hF => ?_) (fun h67 hF => ?_)
        ·
         refine seq_on (by kernel_rfl) (s_eql rfl rfl (fun _ => ?_) (fun h => absurd (a := y224 = 53) h67 h))
         refine pu (.bool true) (by kernel_rfl) (pu (.bool true) (by kernel_rfl) (seq_nil (wp_ret ?_)))
         replace hF := Option.some.inj hF; subst hF
         exact ⟨.bool true, Ret.r1 rfl rfl, ⟨rfl, hI.below⟩⟩
        ·
         refine seq_on (by kernel_rfl) (s_eql rfl rfl (fun h => absurd (a := y224 = 53) h h67) (fun _ => ?_))
         refine pu (.bool false) (by kernel_rfl) (pu (.bool false) (by kernel_rfl) (seq_nil (wp_ret ?_)))
         replace hF := Option.some.inj hF; subst hF
         exact ⟨.bool false, Ret.r1 rfl rfl, ⟨rfl, hI.below⟩⟩
       ·
        refine seq_on (by kernel_rfl) (s_callv hI 41 [slv g198 y196.1.length c199, .slice (some ⟨b220, 0, none⟩) 1 1] (.bool false) (by kernel_rfl) (Does.mono (L41 _ (g198.map fun b => ⟨b, 0, none⟩) c199 y196.1 (some ⟨b220, 0, none⟩) 1 [9] (hI.rowCells 5 rfl r201) (len_le rfl r201.big) (len_le rfl r201.cap) (hI.cells 0 (off := 0) rfl (fun j u h => by rw [Nat.zero_add]; exact h)) (Nat.le_of_ble_eq_true rfl) (Nat.le_refl _) N _ hy222) (fun v' w' h => ⟨h.1.trans (congrArg Value.bool (Bool.eq_false_iff.2 h66)), h.2⟩)) ?_)
        intro w hI
        refine pu (.bool false) (by kernel_rfl) (pu (.bool false) (by kernel_rfl) (of_ (by kernel_rfl) (of_ (by kernel_rfl) (of_ (by kernel_rfl) (of_ (by kernel_rfl) (pu (.bool false) (by kernel_rfl) (pu (.bool false) (by kernel_rfl) (seq_nil (wp_ret ?_)))))))))
        replace hF := Option.some.inj hF; subst hF
        exact ⟨.bool false, Ret.r1 rfl rfl, ⟨rfl, hI.below⟩⟩
      ·
       refine seq_on (by kernel_rfl) (s_callv hI 41 [slv g186 y184.1.length c187, .slice (some ⟨b217, 0, none⟩) 1 1] (.bool false) (by kernel_rfl) (Does.mono (L41 _ (g186.map fun b => ⟨b, 0, none⟩) c187 y184.1 (some ⟨b217, 0, none⟩) 1 [5] (hI.rowCells 3 rfl r189) (len_le rfl r189.big) (len_le rfl r189.cap) (hI.cells 0 (off := 0) rfl (fun j u h => by rw [Nat.zero_add]; exact h)) (Nat.le_of_ble_eq_true rfl) (Nat.le_refl _) N _ hy219) (fun v' w' h => ⟨h.1.trans (congrArg Value.bool (Bool.eq_false_iff.2 h65)), h.2⟩)) ?_)
       intro w hI
       refine pu (.bool false) (by kernel_rfl) (pu (.bool false) (by kernel_rfl) (of_ (by kernel_rfl) (of_ (by kernel_rfl) (of_ (by kernel_rfl) (pu (.bool false) (by kernel_rfl) (pu (.bool false) (by kernel_rfl) (of_ (by kernel_rfl) (of_ (by kernel_rfl) (of_ (by kernel_rfl) ?_)))))))))
       refine of_ (by kernel_rfl) (pu (.bool false) (by kernel_rfl) (pu (.bool false) (by kernel_rfl) (seq_nil (wp_ret ?_))))
       replace hF := Option.some.inj hF; subst hF
       exact ⟨.bool false, Ret.r1 rfl rfl, ⟨rfl, hI.below⟩⟩
     ·
      refine seq_on (by kernel_rfl) (s_eql rfl rfl (fun h => absurd (a := y176.1 = 2) h h64) (fun _ => ?_))
      refine pu (.bool false) (by kernel_rfl) (pu (.bool false) (by kernel_rfl) (of_ (by kernel_rfl) (of_ (by kernel_rfl) (of_ (by kernel_rfl) (pu (.bool false) (by kernel_rfl) (pu (.bool false) (by kernel_rfl) (of_ (by kernel_rfl) (of_ (by kernel_rfl) (of_ (by kernel_rfl) ?_)))))))))
      refine pu (.bool false) (by kernel_rfl) (pu (.bool false) (by kernel_rfl) (of_ (by kernel_rfl) (of_ (by kernel_rfl) (of_ (by kernel_rfl) (of_ (by kernel_rfl) (pu (.bool false) (by kernel_rfl) (pu (.bool false) (by kernel_rfl) (seq_nil (wp_ret ?_)))))))))
      replace hF := Option.some.inj hF; subst hF
      exact ⟨.bool false, Ret.r1 rfl rfl, ⟨rfl, hI.below⟩⟩
    ·
     have hF := hG; clear hG
     refine ifE hF (fun h => absurd h (by decide)) (fun _ hF => ?_)
     refine rgn (by kernel_rfl) (pu (.bool true) (by kernel_rfl) (pu (.bool true) (by kernel_rfl) (puo (.bool false) ⟨(by kernel_rfl), (by kernel_rfl)⟩ (pu (.bool false) (by kernel_rfl) (pu (.bool false) (by kernel_rfl) (of_ (by kernel_rfl) (of_ (by kernel_rfl) (pu (.bool false) (by kernel_rfl) (pu (.bool false) (by kernel_rfl) ?_)))))))))
     refine of_ (by kernel_rfl) (of_ (by kernel_rfl) (of_ (by kernel_rfl) (pu (.bool false) (by kernel_rfl) (pu (.bool false) (by kernel_rfl) (of_ (by kernel_rfl) (of_ (by kernel_rfl) (of_ (by kernel_rfl) (pu (.bool false) (by kernel_rfl) (pu (.bool false) (by kernel_rfl) ?_)))))))))
     refine of_ (by kernel_rfl) (of_ (by kernel_rfl) (of_ (by kernel_rfl) (of_ (by kernel_rfl) (pu (.bool false) (by kernel_rfl) (pu (.bool false) (by kernel_rfl) (seq_nil (wp_ret ?_)))))))
     replace hF := Option.some.inj hF; subst hF
     exact ⟨.bool false, Ret.r1 rfl rfl, ⟨rfl, hI.below⟩⟩
   ·
    have hF := hG; clear hG
    refine ifE hF (fun h => absurd h (by decide)) (fun _ hF => ?_)
    have hG := hF; rcases Bool.eq_false_or_eq_true v206 with rfl | rfl
    ·
     have hF := hG; clear hG
     refine ifE hF (fun _ hF => ?_) (fun h => absurd rfl h)
     refine rgn (by kernel_rfl) (pu (.bool false) (by kernel_rfl) (pu (.bool false) (by kernel_rfl) (of_ (by kernel_rfl) (pu (.bool false) (by kernel_rfl) (pu (.bool false) (by kernel_rfl) (of_ (by kernel_rfl) (of_ (by kernel_rfl) (pu (.bool false) (by kernel_rfl) (pu (.bool false) (by kernel_rfl) ?_)))))))))
     refine of_ (by kernel_rfl) (of_ (by kernel_rfl) (of_ (by kernel_rfl) (pu (.bool false) (by kernel_rfl) (pu (.bool false) (by kernel_rfl) (of_ (by kernel_rfl) (of_ (by kernel_rfl) (of_ (by kernel_rfl) (pu (.bool false) (by kernel_rfl) (pu (.bool false) (by kernel_rfl) ?_)))))))))
     refine of_ (by kernel_rfl) (of_ (by kernel_rfl) (of_ (by kernel_rfl) (of_ (by kernel_rfl) (pu (.bool false) (by kernel_rfl) (pu (.bool false) (by kernel_rfl) (seq_nil (wp_ret ?_)))))))
     replace hF := Option.some.inj hF; subst hF
     exact ⟨.bool false, Ret.r1 rfl rfl, ⟨rfl, hI.below⟩⟩
    ·
     have hF := hG; clear hG
     refine ifE hF (fun h => absurd h (by decide)) (fun _ hF => ?_)
     refine rgn (by kernel_rfl) (pu (.bool false) (by kernel_rfl) (pu (.bool false) (by kernel_rfl) (of_ (by kernel_rfl) (pu (.bool false) (by kernel_rfl) (pu (.bool false) (by kernel_rfl) (of_ (by kernel_rfl) (of_ (by kernel_rfl) (pu (.bool false) (by kernel_rfl) (pu (.bool false) (by kernel_rfl) ?_)))))))))
     refine of_ (by kernel_rfl) (of_ (by kernel_rfl) (of_ (by kernel_rfl) (pu (.bool false) (by kernel_rfl) (pu (.bool false) (by kernel_rfl) (of_ (by kernel_rfl) (of_ (by kernel_rfl) (of_ (by kernel_rfl) (pu (.bool false) (by kernel_rfl) (pu (.bool false) (by kernel_rfl) ?_)))))))))
     refine of_ (by kernel_rfl) (of_ (by kernel_rfl) (of_ (by kernel_rfl) (of_ (by kernel_rfl) (pu (.bool false) (by kernel_rfl) (pu (.bool false) (by kernel_rfl) (seq_nil (wp_ret ?_)))))))
     replace hF := Option.some.inj hF; subst hF
     exact ⟨.bool false, Ret.r1 rfl rfl, ⟨rfl, hI.below⟩⟩


theorem L3 (w0 : World) (p0_0 : Int) (Ap0_1 : Option Addr) (cp0_1 : Nat) (lp0_1 : List Cm) (p1 : Cm) (p2 : Yl) (hCp0_1 : Cells w0 Ap0_1 (flat eCm lp0_1)) (hMp0_1 : lp0_1.length ≤ 9223372036854775807) (hKp0_1 : lp0_1.length ≤ cp0_1) (N : Nat) (r : Bool) (hF : F3 N p0_0 lp0_1 p1 p2 = some r) : Does Try.prog 3 [.agg #[.int .i64 p0_0, .slice Ap0_1 lp0_1.length cp0_1], .agg #[.int .i64 p1.fam, .int .i64 p1.hrs, .int .i64 p1.wants], .agg #[.int .i64 p2.lo, .int .i64 p2.hi, .int .i64 p2.toll]] w0 fun v w => v = .bool r ∧ Below w0.heap.size w0 w := by
 refine calls_of (n := 83) Try.func3 rfl Try.ntmps3 rfl ?_
 have hI := Inv.start w0
 unfold F3 at hF
 refine wp_seq (rgn (by kernel_rfl) (seq_c (s_boxI hI [iv p0_0, .slice Ap0_1 lp0_1.length cp0_1] rfl ?_)))
 intro b97 w hI
 refine seq_c (s_boxI hI [iv p1.fam, iv p1.hrs, iv p1.wants] rfl ?_)
 intro b98 w hI
 refine seq_c (s_boxI hI [iv p2.lo, iv p2.hi, iv p2.toll] rfl ?_)
 intro b99 w hI
 refine pu (.bool false) (by kernel_rfl) (seq_nil (wp_seq (rgn (by kernel_rfl) (seq_c (s_loadK hI 2 2 [iv p0_0, .slice Ap0_1 lp0_1.length cp0_1] Try.isAgg24 Try.sizeOf24 rfl rfl rfl rfl ?_)))))
 refine seq_c (s_loadK hI 1 3 [iv p1.fam, iv p1.hrs, iv p1.wants] Try.isAgg26 Try.sizeOf26 rfl rfl rfl rfl ?_)
 refine bindE hF (fun y107 hy108 hF => ?_)
 refine seq_c (s_call 14 [.agg #[iv p0_0, .slice Ap0_1 lp0_1.length cp0_1], .agg #[iv p1.fam, iv p1.hrs, iv p1.wants]] (by kernel_rfl) (L14 _ p0_0 Ap0_1 cp0_1 lp0_1 p1 (hCp0_1.inv0 hI) hMp0_1 hKp0_1 N _ hy108) ?_)
 rintro v w ⟨g109, c110, cl111, rfl, hN, r112⟩
 have hI := hI.join hN; clear hN
 refine pu (.tuple #[.agg #[iv y107.1, slv g109 y107.2.1.length c110], iv y107.2.2]) (by kernel_rfl) (pu (.agg #[iv y107.1, slv g109 y107.2.1.length c110]) (by kernel_rfl) (pu (iv y107.2.2) (by kernel_rfl) (seq_c (s_allocI hI [iv 0, .slice none 0 0] Try.zeroValue24 rfl ?_))))
 intro b113 w hI
 refine seq_c (s_store hI 0 2 [iv y107.1, slv g109 y107.2.1.length c110] Try.sizeOf24 rfl rfl rfl rfl rfl (Nat.le_of_ble_eq_true rfl) ?_)
 intro w hI
 refine pu (iv y107.2.2) (by kernel_rfl) (seq_nil (wp_seq (rgn (by kernel_rfl) (seq_c (s_loadK hI 4 2 [iv p0_0, .slice Ap0_1 lp0_1.length cp0_1] Try.isAgg24 Try.sizeOf24 rfl rfl rfl rfl ?_)))))
 refine seq_c (s_loadK hI 3 3 [iv p1.fam, iv p1.hrs, iv p1.wants] Try.isAgg26 Try.sizeOf26 rfl rfl rfl rfl ?_)
 refine bindE hF (fun y121 hy122 hF => ?_)
 refine seq_c (s_call 15 [.agg #[iv p0_0, .slice Ap0_1 lp0_1.length cp0_1], .agg #[iv p1.fam, iv p1.hrs, iv p1.wants]] (by kernel_rfl) (L15 _ p0_0 Ap0_1 cp0_1 lp0_1 p1 (hCp0_1.inv0 hI) hMp0_1 hKp0_1 N _ hy122) ?_)
 rintro v w ⟨g123, c124, cl125, rfl, hN, r126⟩
 have hI := hI.join hN; clear hN
 refine pu (.tuple #[.agg #[iv y121.1, slv g123 y121.2.1.length c124], iv y121.2.2]) (by kernel_rfl) (pu (.agg #[iv y121.1, slv g123 y121.2.1.length c124]) (by kernel_rfl) (pu (iv y121.2.2) (by kernel_rfl) (seq_c (s_allocI hI [iv 0, .slice none 0 0] Try.zeroValue24 rfl ?_))))
 intro b127 w hI
 refine seq_c (s_store hI 0 2 [iv y121.1, slv g123 y121.2.1.length c124] Try.sizeOf24 rfl rfl rfl rfl rfl (Nat.le_of_ble_eq_true rfl) ?_)
 intro w hI
 refine pu (iv y121.2.2) (by kernel_rfl) (seq_nil (wp_seq (rgn (by kernel_rfl) (seq_c (s_loadK hI 6 2 [iv p0_0, .slice Ap0_1 lp0_1.length cp0_1] Try.isAgg24 Try.sizeOf24 rfl rfl rfl rfl ?_)))))
 refine pu (.pointer (some ⟨b98, 0, none⟩)) (by kernel_rfl) (seq_c (s_load1 hI 5 (iv p1.fam) Try.isAgg3 rfl rfl rfl ?_))
 refine bindE hF (fun y135 hy136 hF => ?_)
 refine seq_c (s_call 16 [.agg #[iv p0_0, .slice Ap0_1 lp0_1.length cp0_1], iv p1.fam] (by kernel_rfl) (L16 _ p0_0 Ap0_1 cp0_1 lp0_1 p1.fam (hCp0_1.inv0 hI) hMp0_1 hKp0_1 N _ hy136) ?_)
 rintro v w ⟨g137, c138, cl139, rfl, hN, r140⟩
 have hI := hI.join hN; clear hN
 refine pu (.tuple #[.agg #[iv y135.1, slv g137 y135.2.1.length c138], iv y135.2.2]) (by kernel_rfl) (pu (.agg #[iv y135.1, slv g137 y135.2.1.length c138]) (by kernel_rfl) (pu (iv y135.2.2) (by kernel_rfl) (seq_c (s_allocI hI [iv 0, .slice none 0 0] Try.zeroValue24 rfl ?_))))
 intro b141 w hI
 refine seq_c (s_store hI 0 2 [iv y135.1, slv g137 y135.2.1.length c138] Try.sizeOf24 rfl rfl rfl rfl rfl (Nat.le_of_ble_eq_true rfl) ?_)
 intro w hI
 refine pu (iv y135.2.2) (by kernel_rfl) (seq_nil (wp_seq (rgn (by kernel_rfl) (seq_c (s_loadK hI 8 2 [iv p0_0, .slice Ap0_1 lp0_1.length cp0_1] Try.isAgg24 Try.sizeOf24 rfl rfl rfl rfl ?_)))))
 refine pu (.pointer (some ⟨b98, 0, none⟩)) (by kernel_rfl) (seq_c (s_load1 hI 7 (iv p1.fam) Try.isAgg3 rfl rfl rfl ?_))
 refine bindE hF (fun y149 hy150 hF => ?_)
 refine seq_c (s_call 17 [.agg #[iv p0_0, .slice Ap0_1 lp0_1.length cp0_1], iv p1.fam] (by kernel_rfl) (L17 _ p0_0 Ap0_1 cp0_1 lp0_1 p1.fam (hCp0_1.inv0 hI) hMp0_1 hKp0_1 N _ hy150) ?_)
 rintro v w ⟨g151, c152, cl153, rfl, hN, r154⟩
 have hI := hI.join hN; clear hN
 refine pu (.tuple #[.agg #[iv y149.1, slv g151 y149.2.1.length c152], iv y149.2.2]) (by kernel_rfl) (pu (.agg #[iv y149.1, slv g151 y149.2.1.length c152]) (by kernel_rfl) (pu (iv y149.2.2) (by kernel_rfl) (seq_c (s_allocI hI [iv 0, .slice none 0 0] Try.zeroValue24 rfl ?_))))
 intro b155 w hI
 refine seq_c (s_store hI 0 2 [iv y149.1, slv g151 y149.2.1.length c152] Try.sizeOf24 rfl rfl rfl rfl rfl (Nat.le_of_ble_eq_true rfl) ?_)
 intro w hI
 refine pu (iv y149.2.2) (by kernel_rfl) (seq_nil (wp_seq (bindE hF (fun y175 hy176 hF => ?_))))
 refine ifE hF (fun h22 hF => ?_) (fun h22 hF => ?_)
 ·
  refine ifE hF (fun h23 hF => ?_) (fun h23 hF => ?_)
  ·
   refine bindE hF (fun y177 hy178 hF => ?_)
   refine ifE hF (fun h24 hF => ?_) (fun h24 hF => ?_)
   ·
    refine ifE hF (fun h25 hF => ?_) (fun h25 hF => ?_)
    ·
     refine bindE hF (fun y179 hy180 hF => ?_)
     refine bindE hF (fun y181 hy182 hF => ?_)
     refine ifE hF (fun h26 hF => ?_) (fun h26 hF => ?_)
     ·
      refine bindE hF (fun y183 hy184 hF => ?_)
      refine bindE hF (fun y185 hy186 hF => ?_)
      refine ifE hF (fun h27 hF => ?_) (fun h27 hF => ?_)
      ·
       refine bindE hF (fun y187 hy188 hF => ?_)
       refine bindE hF (fun y189 hy190 hF => ?_)
       refine ifE hF (fun h28 hF => ?_) (fun h28 hF => ?_)
       ·
        refine bindE hF (fun y191 hy192 hF => ?_)
        refine wp_drawn2 hI [0, 1, 2, 3, 4, 5, 6, 7, 8, 9, 10] (by decide) rfl (by kernel_rfl) (by kernel_rfl) ?_
        intro hsub
        refine al_light 0 (.agg #[iv y107.1, slv g109 y107.2.1.length c110]) hsub rfl (by kernel_rfl) (fun w hI => s_loadK hI 6 2 [iv y107.1, slv g109 y107.2.1.length c110] Try.isAgg24 Try.sizeOf24 rfl rfl rfl rfl ⟨rfl, Below.refl _ _⟩) ?_
        refine al_light 1 (.agg #[iv y121.1, slv g123 y121.2.1.length c124]) hsub rfl (by kernel_rfl) (fun w hI => s_loadK hI 4 2 [iv y121.1, slv g123 y121.2.1.length c124] Try.isAgg24 Try.sizeOf24 rfl rfl rfl rfl ⟨rfl, Below.refl _ _⟩) ?_
        refine al_light 2 (.bool true) hsub rfl (by kernel_rfl) (fun w hI => s_call 18 [.agg #[iv y107.1, slv g109 y107.2.1.length c110], .agg #[iv y121.1, slv g123 y121.2.1.length c124]] (by kernel_rfl) (Does.mono (L18 _ y107.1 (g109.map fun b => ⟨b, 0, none⟩) c110 y107.2.1 y121.1 (g123.map fun b => ⟨b, 0, none⟩) c124 y121.2.1 (hI.rowCells 7 rfl r112) (len_le rfl r112.big) (len_le rfl r112.cap) (hI.rowCells 5 rfl r126) (len_le rfl r126.big) (len_le rfl r126.cap) N _ hy176) (fun v' w' h => ⟨h.1.trans (congrArg Value.bool h22), h.2⟩)) (fun v' w' h => h)) ?_
        refine alp 3 (.bool true) hsub rfl (by kernel_rfl) (fun _ => (by kernel_rfl)) ?_
        refine al_on 4 (iv y107.2.2) hsub rfl (by kernel_rfl) (by kernel_rfl) (fun w hI => s_pure (iv y107.2.2) (by kernel_rfl) ⟨rfl, Below.refl _ _⟩) ?_
        refine al_on 5 (iv y121.2.2) hsub rfl (by kernel_rfl) (by kernel_rfl) (fun w hI => s_pure (iv y121.2.2) (by kernel_rfl) ⟨rfl, Below.refl _ _⟩) ?_
        refine al_on 6 (.bool true) hsub rfl (by kernel_rfl) (by kernel_rfl) (fun w hI => s_eql rfl rfl (fun _ => ⟨rfl, Below.refl _ _⟩) (fun h => absurd (a := y107.2.2 = y121.2.2) h23 h)) ?_
        refine alp 7 (.bool true) hsub rfl (by kernel_rfl) (fun _ => (by kernel_rfl)) ?_
        refine alp 8 (.bool true) hsub rfl (by kernel_rfl) (fun _ => (by kernel_rfl)) ?_
        refine al_on 9 (.agg #[iv y135.1, slv g137 y135.2.1.length c138]) hsub rfl (by kernel_rfl) (by kernel_rfl) (fun w hI => s_loadK hI 2 2 [iv y135.1, slv g137 y135.2.1.length c138] Try.isAgg24 Try.sizeOf24 rfl rfl rfl rfl ⟨rfl, Below.refl _ _⟩) ?_
        refine al_on 10 (.agg #[iv y149.1, slv g151 y149.2.1.length c152]) hsub rfl (by kernel_rfl) (by kernel_rfl) (fun w hI => s_loadK hI 0 2 [iv y149.1, slv g151 y149.2.1.length c152] Try.isAgg24 Try.sizeOf24 rfl rfl rfl rfl ⟨rfl, Below.refl _ _⟩) ?_
        refine al_on 11 (.bool true) hsub rfl (by kernel_rfl) (by kernel_rfl) (fun w hI => s_call 18 [.agg #[iv y135.1, slv g137 y135.2.1.length c138], .agg #[iv y149.1, slv g151 y149.2.1.length c152]] (by kernel_rfl) (Does.mono (L18 _ y135.1 (g137.map fun b => ⟨b, 0, none⟩) c138 y135.2.1 y149.1 (g151.map fun b => ⟨b, 0, none⟩) c152 y149.2.1 (hI.rowCells 3 rfl r140) (len_le rfl r140.big) (len_le rfl r140.cap) (hI.rowCells 1 rfl r154) (len_le rfl r154.big) (len_le rfl r154.cap) N _ hy178) (fun v' w' h => ⟨h.1.trans (congrArg Value.bool h24), h.2⟩)) (fun v' w' h => h)) ?_
        refine alp 12 (.bool true) hsub rfl (by kernel_rfl) (fun _ => (by kernel_rfl)) ?_
        refine alp 13 (.bool true) hsub rfl (by kernel_rfl) (fun _ => (by kernel_rfl)) ?_
        refine al_on 14 (iv y135.2.2) hsub rfl (by kernel_rfl) (by kernel_rfl) (fun w hI => s_pure (iv y135.2.2) (by kernel_rfl) ⟨rfl, Below.refl _ _⟩) ?_
        refine al_on 15 (iv y149.2.2) hsub rfl (by kernel_rfl) (by kernel_rfl) (fun w hI => s_pure (iv y149.2.2) (by kernel_rfl) ⟨rfl, Below.refl _ _⟩) ?_
        refine al_on 16 (.bool true) hsub rfl (by kernel_rfl) (by kernel_rfl) (fun w hI => s_eql rfl rfl (fun _ => ⟨rfl, Below.refl _ _⟩) (fun h => absurd (a := y135.2.2 = y149.2.2) h25 h)) ?_
        refine alp 17 (.bool true) hsub rfl (by kernel_rfl) (fun _ => (by kernel_rfl)) ?_
        refine alp 18 (.bool true) hsub rfl (by kernel_rfl) (fun _ => (by kernel_rfl)) ?_
        refine al_on 19 (.agg #[iv p2.lo, iv p2.hi, iv p2.toll]) hsub rfl (by kernel_rfl) (by kernel_rfl) (fun w hI => s_loadK hI 8 3 [iv p2.lo, iv p2.hi, iv p2.toll] Try.isAgg30 Try.sizeOf30 rfl rfl rfl rfl ⟨rfl, Below.refl _ _⟩) ?_
        refine al_on 20 (iv y179) hsub rfl (by kernel_rfl) (by kernel_rfl) (fun w hI => s_call 19 [.agg #[iv p2.lo, iv p2.hi, iv p2.toll]] (by kernel_rfl) (L19 _ p2 _ hy180) (fun v' w' h => h)) ?_
        refine al_on 21 (.agg #[iv p2.lo, iv p2.hi, iv p2.toll]) hsub rfl (by kernel_rfl) (by kernel_rfl) (fun w hI => s_loadK hI 8 3 [iv p2.lo, iv p2.hi, iv p2.toll] Try.isAgg30 Try.sizeOf30 rfl rfl rfl rfl ⟨rfl, Below.refl _ _⟩) ?_
        refine al_on 22 (iv y181) hsub rfl (by kernel_rfl) (by kernel_rfl) (fun w hI => s_call 20 [.agg #[iv p2.lo, iv p2.hi, iv p2.toll]] (by kernel_rfl) (L20 _ p2 _ hy182) (fun v' w' h => h)) ?_
        refine al_on 23 (.bool true) hsub rfl (by kernel_rfl) (by kernel_rfl) (fun w hI => s_eql rfl rfl (fun _ => ⟨rfl, Below.refl _ _⟩) (fun h => absurd (a := y179 = y181) h26 h)) ?_
        refine alp 24 (.bool true) hsub rfl (by kernel_rfl) (fun _ => (by kernel_rfl)) ?_
        refine alp 25 (.bool true) hsub rfl (by kernel_rfl) (fun _ => (by kernel_rfl)) ?_
        refine al_on 26 (.agg #[iv p1.fam, iv p1.hrs, iv p1.wants]) hsub rfl (by kernel_rfl) (by kernel_rfl) (fun w hI => s_loadK hI 9 3 [iv p1.fam, iv p1.hrs, iv p1.wants] Try.isAgg26 Try.sizeOf26 rfl rfl rfl rfl ⟨rfl, Below.refl _ _⟩) ?_
        refine al_on 27 (iv y183) hsub rfl (by kernel_rfl) (by kernel_rfl) (fun w hI => s_call 21 [.agg #[iv p1.fam, iv p1.hrs, iv p1.wants]] (by kernel_rfl) (L21 _ p1 _ hy184) (fun v' w' h => h)) ?_
        refine al_on 28 (.agg #[iv p1.fam, iv p1.hrs, iv p1.wants]) hsub rfl (by kernel_rfl) (by kernel_rfl) (fun w hI => s_loadK hI 9 3 [iv p1.fam, iv p1.hrs, iv p1.wants] Try.isAgg26 Try.sizeOf26 rfl rfl rfl rfl ⟨rfl, Below.refl _ _⟩) ?_
        refine al_on 29 (iv y185) hsub rfl (by kernel_rfl) (by kernel_rfl) (fun w hI => s_call 22 [.agg #[iv p1.fam, iv p1.hrs, iv p1.wants]] (by kernel_rfl) (L22 _ p1 _ hy186) (fun v' w' h => h)) ?_
        refine al_on 30 (.bool true) hsub rfl (by kernel_rfl) (by kernel_rfl) (fun w hI => s_eql rfl rfl (fun _ => ⟨rfl, Below.refl _ _⟩) (fun h => absurd (a := y183 = y185) h27 h)) ?_
        refine alp 31 (.bool true) hsub rfl (by kernel_rfl) (fun _ => (by kernel_rfl)) ?_
        refine alp 32 (.bool true) hsub rfl (by kernel_rfl) (fun _ => (by kernel_rfl)) ?_
        refine al_on 33 (.agg #[iv p0_0, .slice Ap0_1 lp0_1.length cp0_1]) hsub rfl (by kernel_rfl) (by kernel_rfl) (fun w hI => s_loadK hI 10 2 [iv p0_0, .slice Ap0_1 lp0_1.length cp0_1] Try.isAgg24 Try.sizeOf24 rfl rfl rfl rfl ⟨rfl, Below.refl _ _⟩) ?_
        refine al_on 34 (iv y187) hsub rfl (by kernel_rfl) (by kernel_rfl) (fun w hI => s_call 23 [.agg #[iv p0_0, .slice Ap0_1 lp0_1.length cp0_1]] (by kernel_rfl) (L23 _ p0_0 Ap0_1 cp0_1 lp0_1 (hCp0_1.inv0 hI) hMp0_1 hKp0_1 N _ hy188) (fun v' w' h => h)) ?_
        refine al_on 35 (.agg #[iv p0_0, .slice Ap0_1 lp0_1.length cp0_1]) hsub rfl (by kernel_rfl) (by kernel_rfl) (fun w hI => s_loadK hI 10 2 [iv p0_0, .slice Ap0_1 lp0_1.length cp0_1] Try.isAgg24 Try.sizeOf24 rfl rfl rfl rfl ⟨rfl, Below.refl _ _⟩) ?_
        refine al_on 36 (iv y189) hsub rfl (by kernel_rfl) (by kernel_rfl) (fun w hI => s_call 24 [.agg #[iv p0_0, .slice Ap0_1 lp0_1.length cp0_1]] (by kernel_rfl) (L24 _ p0_0 Ap0_1 cp0_1 lp0_1 (hCp0_1.inv0 hI) hMp0_1 hKp0_1 N _ hy190) (fun v' w' h => h)) ?_
        refine al_on 37 (.bool true) hsub rfl (by kernel_rfl) (by kernel_rfl) (fun w hI => s_eql rfl rfl (fun _ => ⟨rfl, Below.refl _ _⟩) (fun h => absurd (a := y187 = y189) h28 h)) ?_
        refine alp 38 (.bool true) hsub rfl (by kernel_rfl) (fun _ => (by kernel_rfl)) ?_
        refine alp 39 (.bool true) hsub rfl (by kernel_rfl) (fun _ => (by kernel_rfl)) ?_
        refine al_on 40 (.bool y191) hsub rfl (by kernel_rfl) (by kernel_rfl) (fun w hI => s_call 25 [] (by kernel_rfl) (L25 _ N _ hy192) (fun v' w' h => h)) ?_
        refine alp 41 (.bool y191) hsub rfl (by kernel_rfl) (fun _ => (by kernel_rfl)) ?_
        refine alp 42 (.bool y191) hsub rfl (by kernel_rfl) (fun _ => (by kernel_rfl)) ?_
        refine any_end (by kernel_rfl) (fun w hI => ?_)
        refine wp_ret ?_
        replace hF := Option.some.inj hF; subst hF
        exact ⟨.bool y191, Ret.r1 rfl rfl, ⟨rfl, hI.below⟩⟩
       ·
        refine wp_drawn2 hI [0, 1, 2, 3, 4, 5, 6, 7, 8, 9, 10] (by decide) rfl (by kernel_rfl) (by kernel_rfl) ?_
        intro hsub
        refine al_light 0 (.agg #[iv y107.1, slv g109 y107.2.1.length c110]) hsub rfl (by kernel_rfl) (fun w hI => s_loadK hI 6 2 [iv y107.1, slv g109 y107.2.1.length c110] Try.isAgg24 Try.sizeOf24 rfl rfl rfl rfl ⟨rfl, Below.refl _ _⟩) ?_
        refine al_light 1 (.agg #[iv y121.1, slv g123 y121.2.1.length c124]) hsub rfl (by kernel_rfl) (fun w hI => s_loadK hI 4 2 [iv y121.1, slv g123 y121.2.1.length c124] Try.isAgg24 Try.sizeOf24 rfl rfl rfl rfl ⟨rfl, Below.refl _ _⟩) ?_
        refine al_light 2 (.bool true) hsub rfl (by kernel_rfl) (fun w hI => s_call 18 [.agg #[iv y107.1, slv g109 y107.2.1.length c110], .agg #[iv y121.1, slv g123 y121.2.1.length c124]] (by kernel_rfl) (Does.mono (L18 _ y107.1 (g109.map fun b => ⟨b, 0, none⟩) c110 y107.2.1 y121.1 (g123.map fun b => ⟨b, 0, none⟩) c124 y121.2.1 (hI.rowCells 7 rfl r112) (len_le rfl r112.big) (len_le rfl r112.cap) (hI.rowCells 5 rfl r126) (len_le rfl r126.big) (len_le rfl r126.cap) N _ hy176) (fun v' w' h => ⟨h.1.trans (congrArg Value.bool h22), h.2⟩)) (fun v' w' h => h)) ?_
        refine alp 3 (.bool true) hsub rfl (by kernel_rfl) (fun _ => (by kernel_rfl)) ?_
        refine al_on 4 (iv y107.2.2) hsub rfl (by kernel_rfl) (by kernel_rfl) (fun w hI => s_pure (iv y107.2.2) (by kernel_rfl) ⟨rfl, Below.refl _ _⟩) ?_
        refine al_on 5 (iv y121.2.2) hsub rfl (by kernel_rfl) (by kernel_rfl) (fun w hI => s_pure (iv y121.2.2) (by kernel_rfl) ⟨rfl, Below.refl _ _⟩) ?_
        refine al_on 6 (.bool true) hsub rfl (by kernel_rfl) (by kernel_rfl) (fun w hI => s_eql rfl rfl (fun _ => ⟨rfl, Below.refl _ _⟩) (fun h => absurd (a := y107.2.2 = y121.2.2) h23 h)) ?_
        refine alp 7 (.bool true) hsub rfl (by kernel_rfl) (fun _ => (by kernel_rfl)) ?_
        refine alp 8 (.bool true) hsub rfl (by kernel_rfl) (fun _ => (by kernel_rfl)) ?_
        refine al_on 9 (.agg #[iv y135.1, slv g137 y135.2.1.length c138]) hsub rfl (by kernel_rfl) (by kernel_rfl) (fun w hI => s_loadK hI 2 2 [iv y135.1, slv g137 y135.2.1.length c138] Try.isAgg24 Try.sizeOf24 rfl rfl rfl rfl ⟨rfl, Below.refl _ _⟩) ?_
        refine al_on 10 (.agg #[iv y149.1, slv g151 y149.2.1.length c152]) hsub rfl (by kernel_rfl) (by kernel_rfl) (fun w hI => s_loadK hI 0 2 [iv y149.1, slv g151 y149.2.1.length c152] Try.isAgg24 Try.sizeOf24 rfl rfl rfl rfl ⟨rfl, Below.refl _ _⟩) ?_
        refine al_on 11 (.bool true) hsub rfl (by kernel_rfl) (by kernel_rfl) (fun w hI => s_call 18 [.agg #[iv y135.1, slv g137 y135.2.1.length c138], .agg #[iv y149.1, slv g151 y149.2.1.length c152]] (by kernel_rfl) (Does.mono (L18 _ y135.1 (g137.map fun b => ⟨b, 0, none⟩) c138 y135.2.1 y149.1 (g151.map fun b => ⟨b, 0, none⟩) c152 y149.2.1 (hI.rowCells 3 rfl r140) (len_le rfl r140.big) (len_le rfl r140.cap) (hI.rowCells 1 rfl r154) (len_le rfl r154.big) (len_le rfl r154.cap) N _ hy178) (fun v' w' h => ⟨h.1.trans (congrArg Value.bool h24), h.2⟩)) (fun v' w' h => h)) ?_
        refine alp 12 (.bool true) hsub rfl (by kernel_rfl) (fun _ => (by kernel_rfl)) ?_
        refine alp 13 (.bool true) hsub rfl (by kernel_rfl) (fun _ => (by kernel_rfl)) ?_
        refine al_on 14 (iv y135.2.2) hsub rfl (by kernel_rfl) (by kernel_rfl) (fun w hI => s_pure (iv y135.2.2) (by kernel_rfl) ⟨rfl, Below.refl _ _⟩) ?_
        refine al_on 15 (iv y149.2.2) hsub rfl (by kernel_rfl) (by kernel_rfl) (fun w hI => s_pure (iv y149.2.2) (by kernel_rfl) ⟨rfl, Below.refl _ _⟩) ?_
        refine al_on 16 (.bool true) hsub rfl (by kernel_rfl) (by kernel_rfl) (fun w hI => s_eql rfl rfl (fun _ => ⟨rfl, Below.refl _ _⟩) (fun h => absurd (a := y135.2.2 = y149.2.2) h25 h)) ?_
        refine alp 17 (.bool true) hsub rfl (by kernel_rfl) (fun _ => (by kernel_rfl)) ?_
        refine alp 18 (.bool true) hsub rfl (by kernel_rfl) (fun _ => (by kernel_rfl)) ?_
        refine al_on 19 (.agg #[iv p2.lo, iv p2.hi, iv p2.toll]) hsub rfl (by kernel_rfl) (by kernel_rfl) (fun w hI => s_loadK hI 8 3 [iv p2.lo, iv p2.hi, iv p2.toll] Try.isAgg30 Try.sizeOf30 rfl rfl rfl rfl ⟨rfl, Below.refl _ _⟩) ?_
        refine al_on 20 (iv y179) hsub rfl (by kernel_rfl) (by kernel_rfl) (fun w hI => s_call 19 [.agg #[iv p2.lo, iv p2.hi, iv p2.toll]] (by kernel_rfl) (L19 _ p2 _ hy180) (fun v' w' h => h)) ?_
        refine al_on 21 (.agg #[iv p2.lo, iv p2.hi, iv p2.toll]) hsub rfl (by kernel_rfl) (by kernel_rfl) (fun w hI => s_loadK hI 8 3 [iv p2.lo, iv p2.hi, iv p2.toll] Try.isAgg30 Try.sizeOf30 rfl rfl rfl rfl ⟨rfl, Below.refl _ _⟩) ?_
        refine al_on 22 (iv y181) hsub rfl (by kernel_rfl) (by kernel_rfl) (fun w hI => s_call 20 [.agg #[iv p2.lo, iv p2.hi, iv p2.toll]] (by kernel_rfl) (L20 _ p2 _ hy182) (fun v' w' h => h)) ?_
        refine al_on 23 (.bool true) hsub rfl (by kernel_rfl) (by kernel_rfl) (fun w hI => s_eql rfl rfl (fun _ => ⟨rfl, Below.refl _ _⟩) (fun h => absurd (a := y179 = y181) h26 h)) ?_
        refine alp 24 (.bool true) hsub rfl (by kernel_rfl) (fun _ => (by kernel_rfl)) ?_
        refine alp 25 (.bool true) hsub rfl (by kernel_rfl) (fun _ => (by kernel_rfl)) ?_
        refine al_on 26 (.agg #[iv p1.fam, iv p1.hrs, iv p1.wants]) hsub rfl (by kernel_rfl) (by kernel_rfl) (fun w hI => s_loadK hI 9 3 [iv p1.fam, iv p1.hrs, iv p1.wants] Try.isAgg26 Try.sizeOf26 rfl rfl rfl rfl ⟨rfl, Below.refl _ _⟩) ?_
        refine al_on 27 (iv y183) hsub rfl (by kernel_rfl) (by kernel_rfl) (fun w hI => s_call 21 [.agg #[iv p1.fam, iv p1.hrs, iv p1.wants]] (by kernel_rfl) (L21 _ p1 _ hy184) (fun v' w' h => h)) ?_
        refine al_on 28 (.agg #[iv p1.fam, iv p1.hrs, iv p1.wants]) hsub rfl (by kernel_rfl) (by kernel_rfl) (fun w hI => s_loadK hI 9 3 [iv p1.fam, iv p1.hrs, iv p1.wants] Try.isAgg26 Try.sizeOf26 rfl rfl rfl rfl ⟨rfl, Below.refl _ _⟩) ?_
        refine al_on 29 (iv y185) hsub rfl (by kernel_rfl) (by kernel_rfl) (fun w hI => s_call 22 [.agg #[iv p1.fam, iv p1.hrs, iv p1.wants]] (by kernel_rfl) (L22 _ p1 _ hy186) (fun v' w' h => h)) ?_
        refine al_on 30 (.bool true) hsub rfl (by kernel_rfl) (by kernel_rfl) (fun w hI => s_eql rfl rfl (fun _ => ⟨rfl, Below.refl _ _⟩) (fun h => absurd (a := y183 = y185) h27 h)) ?_
        refine alp 31 (.bool true) hsub rfl (by kernel_rfl) (fun _ => (by kernel_rfl)) ?_
        refine alp 32 (.bool true) hsub rfl (by kernel_rfl) (fun _ => (by kernel_rfl)) ?_
        refine al_on 33 (.agg #[iv p0_0, .slice Ap0_1 lp0_1.length cp0_1]) hsub rfl (by kernel_rfl) (by kernel_rfl) (fun w hI => s_loadK hI 10 2 [iv p0_0, .slice Ap0_1 lp0_1.length cp0_1] Try.isAgg24 Try.sizeOf24 rfl rfl rfl rfl ⟨rfl, Below.refl _ _⟩) ?_
        refine al_on 34 (iv y187) hsub rfl (by kernel_rfl) (by kernel_rfl) (fun w hI => s_call 23 [.agg #[iv p0_0, .slice Ap0_1 lp0_1.length cp0_1]] (by kernel_rfl) (L23 _ p0_0 Ap0_1 cp0_1 lp0_1 (hCp0_1.inv0 hI) hMp0_1 hKp0_1 N _ hy188) (fun v' w' h => h)) ?_
        refine al_on 35 (.agg #[iv p0_0, .slice Ap0_1 lp0_1.length cp0_1]) hsub rfl (by kernel_rfl) (by kernel_rfl) (fun w hI => s_loadK hI 10 2 [iv p0_0, .slice Ap0_1 lp0_1.length cp0_1] Try.isAgg24 Try.sizeOf24 rfl rfl rfl rfl ⟨rfl, Below.refl _ _⟩) ?_
        refine al_on 36 (iv y189) hsub rfl (by kernel_rfl) (by kernel_rfl) (fun w hI => s_call 24 [.agg #[iv p0_0, .slice Ap0_1 lp0_1.length cp0_1]] (by kernel_rfl) (L24 _ p0_0 Ap0_1 cp0_1 lp0_1 (hCp0_1.inv0 hI) hMp0_1 hKp0_1 N _ hy190) (fun v' w' h => h)) ?_
        refine al_on 37 (.bool false) hsub rfl (by kernel_rfl) (by kernel_rfl) (fun w hI => s_eql rfl rfl (fun h => absurd (a := y187 = y189) h h28) (fun _ => ⟨rfl, Below.refl _ _⟩)) ?_
        refine alp 38 (.bool false) hsub rfl (by kernel_rfl) (fun _ => (by kernel_rfl)) ?_
        refine alp 39 (.bool false) hsub rfl (by kernel_rfl) (fun _ => (by kernel_rfl)) ?_
        refine al_off 40 hsub rfl (by kernel_rfl) (by kernel_rfl) ?_
        refine alp 41 (.bool false) hsub rfl (by kernel_rfl) (fun _ => (by kernel_rfl)) ?_
        refine alp 42 (.bool false) hsub rfl (by kernel_rfl) (fun _ => (by kernel_rfl)) ?_
        refine any_end (by kernel_rfl) (fun w hI => ?_)
        refine wp_ret ?_
        replace hF := Option.some.inj hF; subst hF
        exact ⟨.bool false, Ret.r1 rfl rfl, ⟨rfl, hI.below⟩⟩
      ·
       refine wp_drawn2 hI [0, 1, 2, 3, 4, 5, 6, 7, 8, 9, 10] (by decide) rfl (by kernel_rfl) (by kernel_rfl) ?_
       intro hsub
       refine al_light 0 (.agg #[iv y107.1, slv g109 y107.2.1.length c110]) hsub rfl (by kernel_rfl) (fun w hI => s_loadK hI 6 2 [iv y107.1, slv g109 y107.2.1.length c110] Try.isAgg24 Try.sizeOf24 rfl rfl rfl rfl ⟨rfl, Below.refl _ _⟩) ?_
       refine al_light 1 (.agg #[iv y121.1, slv g123 y121.2.1.length c124]) hsub rfl (by kernel_rfl) (fun w hI => s_loadK hI 4 2 [iv y121.1, slv g123 y121.2.1.length c124] Try.isAgg24 Try.sizeOf24 rfl rfl rfl rfl ⟨rfl, Below.refl _ _⟩) ?_
       refine al_light 2 (.bool true) hsub rfl (by kernel_rfl) (fun w hI => s_call 18 [.agg #[iv y107.1, slv g109 y107.2.1.length c110], .agg #[iv y121.1, slv g123 y121.2.1.length c124]] (by kernel_rfl) (Does.mono (L18 _ y107.1 (g109.map fun b => ⟨b, 0, none⟩) c110 y107.2.1 y121.1 (g123.map fun b => ⟨b, 0, none⟩) c124 y121.2.1 (hI.rowCells 7 rfl r112) (len_le rfl r112.big) (len_le rfl r112.cap) (hI.rowCells 5 rfl r126) (len_le rfl r126.big) (len_le rfl r126.cap) N _ hy176) (fun v' w' h => ⟨h.1.trans (congrArg Value.bool h22), h.2⟩)) (fun v' w' h => h)) ?_
       refine alp 3 (.bool true) hsub rfl (by kernel_rfl) (fun _ => (by kernel_rfl)) ?_
       refine al_on 4 (iv y107.2.2) hsub rfl (by kernel_rfl) (by kernel_rfl) (fun w hI => s_pure (iv y107.2.2) (by kernel_rfl) ⟨rfl, Below.refl _ _⟩) ?_
       refine al_on 5 (iv y121.2.2) hsub rfl (by kernel_rfl) (by kernel_rfl) (fun w hI => s_pure (iv y121.2.2) (by kernel_rfl) ⟨rfl, Below.refl _ _⟩) ?_
       refine al_on 6 (.bool true) hsub rfl (by kernel_rfl) (by kernel_rfl) (fun w hI => s_eql rfl rfl (fun _ => ⟨rfl, Below.refl _ _⟩) (fun h => absurd (a := y107.2.2 = y121.2.2) h23 h)) ?_
       refine alp 7 (.bool true) hsub rfl (by kernel_rfl) (fun _ => (by kernel_rfl)) ?_
       refine alp 8 (.bool true) hsub rfl (by kernel_rfl) (fun _ => (by kernel_rfl)) ?_
       refine al_on 9 (.agg #[iv y135.1, slv g137 y135.2.1.length c138]) hsub rfl (by kernel_rfl) (by kernel_rfl) (fun w hI => s_loadK hI 2 2 [iv y135.1, slv g137 y135.2.1.length c138] Try.isAgg24 Try.sizeOf24 rfl rfl rfl rfl ⟨rfl, Below.refl _ _⟩) ?_
       refine al_on 10 (.agg #[iv y149.1, slv g151 y149.2.1.length c152]) hsub rfl (by kernel_rfl) (by kernel_rfl) (fun w hI => s_loadK hI 0 2 [iv y149.1, slv g151 y149.2.1.length c152] Try.isAgg24 Try.sizeOf24 rfl rfl rfl rfl ⟨rfl, Below.refl _ _⟩) ?_
       refine al_on 11 (.bool true) hsub rfl (by kernel_rfl) (by kernel_rfl) (fun w hI => s_call 18 [.agg #[iv y135.1, slv g137 y135.2.1.length c138], .agg #[iv y149.1, slv g151 y149.2.1.length c152]] (by kernel_rfl) (Does.mono (L18 _ y135.1 (g137.map fun b => ⟨b, 0, none⟩) c138 y135.2.1 y149.1 (g151.map fun b => ⟨b, 0, none⟩) c152 y149.2.1 (hI.rowCells 3 rfl r140) (len_le rfl r140.big) (len_le rfl r140.cap) (hI.rowCells 1 rfl r154) (len_le rfl r154.big) (len_le rfl r154.cap) N _ hy178) (fun v' w' h => ⟨h.1.trans (congrArg Value.bool h24), h.2⟩)) (fun v' w' h => h)) ?_
       refine alp 12 (.bool true) hsub rfl (by kernel_rfl) (fun _ => (by kernel_rfl)) ?_
       refine alp 13 (.bool true) hsub rfl (by kernel_rfl) (fun _ => (by kernel_rfl)) ?_
       refine al_on 14 (iv y135.2.2) hsub rfl (by kernel_rfl) (by kernel_rfl) (fun w hI => s_pure (iv y135.2.2) (by kernel_rfl) ⟨rfl, Below.refl _ _⟩) ?_
       refine al_on 15 (iv y149.2.2) hsub rfl (by kernel_rfl) (by kernel_rfl) (fun w hI => s_pure (iv y149.2.2) (by kernel_rfl) ⟨rfl, Below.refl _ _⟩) ?_
       refine al_on 16 (.bool true) hsub rfl (by kernel_rfl) (by kernel_rfl) (fun w hI => s_eql rfl rfl (fun _ => ⟨rfl, Below.refl _ _⟩) (fun h => absurd (a := y135.2.2 = y149.2.2) h25 h)) ?_
       refine alp 17 (.bool true) hsub rfl (by kernel_rfl) (fun _ => (by kernel_rfl)) ?_
       refine alp 18 (.bool true) hsub rfl (by kernel_rfl) (fun _ => (by kernel_rfl)) ?_
       refine al_on 19 (.agg #[iv p2.lo, iv p2.hi, iv p2.toll]) hsub rfl (by kernel_rfl) (by kernel_rfl) (fun w hI => s_loadK hI 8 3 [iv p2.lo, iv p2.hi, iv p2.toll] Try.isAgg30 Try.sizeOf30 rfl rfl rfl rfl ⟨rfl, Below.refl _ _⟩) ?_
       refine al_on 20 (iv y179) hsub rfl (by kernel_rfl) (by kernel_rfl) (fun w hI => s_call 19 [.agg #[iv p2.lo, iv p2.hi, iv p2.toll]] (by kernel_rfl) (L19 _ p2 _ hy180) (fun v' w' h => h)) ?_
       refine al_on 21 (.agg #[iv p2.lo, iv p2.hi, iv p2.toll]) hsub rfl (by kernel_rfl) (by kernel_rfl) (fun w hI => s_loadK hI 8 3 [iv p2.lo, iv p2.hi, iv p2.toll] Try.isAgg30 Try.sizeOf30 rfl rfl rfl rfl ⟨rfl, Below.refl _ _⟩) ?_
       refine al_on 22 (iv y181) hsub rfl (by kernel_rfl) (by kernel_rfl) (fun w hI => s_call 20 [.agg #[iv p2.lo, iv p2.hi, iv p2.toll]] (by kernel_rfl) (L20 _ p2 _ hy182) (fun v' w' h => h)) ?_
       refine al_on 23 (.bool true) hsub rfl (by kernel_rfl) (by kernel_rfl) (fun w hI => s_eql rfl rfl (fun _ => ⟨rfl, Below.refl _ _⟩) (fun h => absurd (a := y179 = y181) h26 h)) ?_
       refine alp 24 (.bool true) hsub rfl (by kernel_rfl) (fun _ => (by kernel_rfl)) ?_
       refine alp 25 (.bool true) hsub rfl (by kernel_rfl) (fun _ => (by kernel_rfl)) ?_
       refine al_on 26 (.agg #[iv p1.fam, iv p1.hrs, iv p1.wants]) hsub rfl (by kernel_rfl) (by kernel_rfl) (fun w hI => s_loadK hI 9 3 [iv p1.fam, iv p1.hrs, iv p1.wants] Try.isAgg26 Try.sizeOf26 rfl rfl rfl rfl ⟨rfl, Below.refl _ _⟩) ?_
       refine al_on 27 (iv y183) hsub rfl (by kernel_rfl) (by kernel_rfl) (fun w hI => s_call 21 [.agg #[iv p1.fam, iv p1.hrs, iv p1.wants]] (by kernel_rfl) (L21 _ p1 _ hy184) (fun v' w' h => h)) ?_
       refine al_on 28 (.agg #[iv p1.fam, iv p1.hrs, iv p1.wants]) hsub rfl (by kernel_rfl) (by kernel_rfl) (fun w hI => s_loadK hI 9 3 [iv p1.fam, iv p1.hrs, iv p1.wants] Try.isAgg26 Try.sizeOf26 rfl rfl rfl rfl ⟨rfl, Below.refl _ _⟩) ?_
       refine al_on 29 (iv y185) hsub rfl (by kernel_rfl) (by kernel_rfl) (fun w hI => s_call 22 [.agg #[iv p1.fam, iv p1.hrs, iv p1.wants]] (by kernel_rfl) (L22 _ p1 _ hy186) (fun v' w' h => h)) ?_
       refine al_on 30 (.bool false) hsub rfl (by kernel_rfl) (by kernel_rfl) (fun w hI => s_eql rfl rfl (fun h => absurd (a := y183 = y185) h h27) (fun _ => ⟨rfl, Below.refl _ _⟩)) ?_
       refine alp 31 (.bool false) hsub rfl (by kernel_rfl) (fun _ => (by kernel_rfl)) ?_
       refine alp 32 (.bool false) hsub rfl (by kernel_rfl) (fun _ => (by kernel_rfl)) ?_
       refine al_off 33 hsub rfl (by kernel_rfl) (by kernel_rfl) ?_
       refine al_off 34 hsub rfl (by kernel_rfl) (by kernel_rfl) ?_
       refine al_off 35 hsub rfl (by kernel_rfl) (by kernel_rfl) ?_
       refine al_off 36 hsub rfl (by kernel_rfl) (by kernel_rfl) ?_
       refine al_off 37 hsub rfl (by kernel_rfl) (by kernel_rfl) ?_
       refine alp 38 (.bool false) hsub rfl (by kernel_rfl) (fun _ => (by kernel_rfl)) ?_
       refine alp 39 (.bool false) hsub rfl (by kernel_rfl) (fun _ => (by kernel_rfl)) ?_
       refine al_off 40 hsub rfl (by kernel_rfl) (by kernel_rfl) ?_
       refine alp 41 (.bool false) hsub rfl (by kernel_rfl) (fun _ => (by kernel_rfl)) ?_
       refine alp 42 (.bool false) hsub rfl (by kernel_rfl) (fun _ => (by kernel_rfl)) ?_
       refine any_end (by kernel_rfl) (fun w hI => ?_)
       refine wp_ret ?_
       replace hF := Option.some.inj hF; subst hF
       exact ⟨.bool false, Ret.r1 rfl rfl, ⟨rfl, hI.below⟩⟩
     ·
      refine wp_drawn2 hI [0, 1, 2, 3, 4, 5, 6, 7, 8, 9, 10] (by decide) rfl (by kernel_rfl) (by kernel_rfl) ?_
      intro hsub
      refine al_light 0 (.agg #[iv y107.1, slv g109 y107.2.1.length c110]) hsub rfl (by kernel_rfl) (fun w hI => s_loadK hI 6 2 [iv y107.1, slv g109 y107.2.1.length c110] Try.isAgg24 Try.sizeOf24 rfl rfl rfl rfl ⟨rfl, Below.refl _ _⟩) ?_
      refine al_light 1 (.agg #[iv y121.1, slv g123 y121.2.1.length c124]) hsub rfl (by kernel_rfl) (fun w hI => s_loadK hI 4 2 [iv y121.1, slv g123 y121.2.1.length c124] Try.isAgg24 Try.sizeOf24 rfl rfl rfl rfl ⟨rfl, Below.refl _ _⟩) ?_
      refine al_light 2 (.bool true) hsub rfl (by kernel_rfl) (fun w hI => s_call 18 [.agg #[iv y107.1, slv g109 y107.2.1.length c110], .agg #[iv y121.1, slv g123 y121.2.1.length c124]] (by kernel_rfl) (Does.mono (L18 _ y107.1 (g109.map fun b => ⟨b, 0, none⟩) c110 y107.2.1 y121.1 (g123.map fun b => ⟨b, 0, none⟩) c124 y121.2.1 (hI.rowCells 7 rfl r112) (len_le rfl r112.big) (len_le rfl r112.cap) (hI.rowCells 5 rfl r126) (len_le rfl r126.big) (len_le rfl r126.cap) N _ hy176) (fun v' w' h => ⟨h.1.trans (congrArg Value.bool h22), h.2⟩)) (fun v' w' h => h)) ?_
      refine alp 3 (.bool true) hsub rfl (by kernel_rfl) (fun _ => (by kernel_rfl)) ?_
      refine al_on 4 (iv y107.2.2) hsub rfl (by kernel_rfl) (by kernel_rfl) (fun w hI => s_pure (iv y107.2.2) (by kernel_rfl) ⟨rfl, Below.refl _ _⟩) ?_
      refine al_on 5 (iv y121.2.2) hsub rfl (by kernel_rfl) (by kernel_rfl) (fun w hI => s_pure (iv y121.2.2) (by kernel_rfl) ⟨rfl, Below.refl _ _⟩) ?_
      refine al_on 6 (.bool true) hsub rfl (by kernel_rfl) (by kernel_rfl) (fun w hI => s_eql rfl rfl (fun _ => ⟨rfl, Below.refl _ _⟩) (fun h => absurd (a := y107.2.2 = y121.2.2) h23 h)) ?_
      refine alp 7 (.bool true) hsub rfl (by kernel_rfl) (fun _ => (by kernel_rfl)) ?_
      refine alp 8 (.bool true) hsub rfl (by kernel_rfl) (fun _ => (by kernel_rfl)) ?_
      refine al_on 9 (.agg #[iv y135.1, slv g137 y135.2.1.length c138]) hsub rfl (by kernel_rfl) (by kernel_rfl) (fun w hI => s_loadK hI 2 2 [iv y135.1, slv g137 y135.2.1.length c138] Try.isAgg24 Try.sizeOf24 rfl rfl rfl rfl ⟨rfl, Below.refl _ _⟩) ?_
      refine al_on 10 (.agg #[iv y149.1, slv g151 y149.2.1.length c152]) hsub rfl (by kernel_rfl) (by kernel_rfl) (fun w hI => s_loadK hI 0 2 [iv y149.1, slv g151 y149.2.1.length c152] Try.isAgg24 Try.sizeOf24 rfl rfl rfl rfl ⟨rfl, Below.refl _ _⟩) ?_
      refine al_on 11 (.bool true) hsub rfl (by kernel_rfl) (by kernel_rfl) (fun w hI => s_call 18 [.agg #[iv y135.1, slv g137 y135.2.1.length c138], .agg #[iv y149.1, slv g151 y149.2.1.length c152]] (by kernel_rfl) (Does.mono (L18 _ y135.1 (g137.map fun b => ⟨b, 0, none⟩) c138 y135.2.1 y149.1 (g151.map fun b => ⟨b, 0, none⟩) c152 y149.2.1 (hI.rowCells 3 rfl r140) (len_le rfl r140.big) (len_le rfl r140.cap) (hI.rowCells 1 rfl r154) (len_le rfl r154.big) (len_le rfl r154.cap) N _ hy178) (fun v' w' h => ⟨h.1.trans (congrArg Value.bool h24), h.2⟩)) (fun v' w' h => h)) ?_
      refine alp 12 (.bool true) hsub rfl (by kernel_rfl) (fun _ => (by kernel_rfl)) ?_
      refine alp 13 (.bool true) hsub rfl (by kernel_rfl) (fun _ => (by kernel_rfl)) ?_
      refine al_on 14 (iv y135.2.2) hsub rfl (by kernel_rfl) (by kernel_rfl) (fun w hI => s_pure (iv y135.2.2) (by kernel_rfl) ⟨rfl, Below.refl _ _⟩) ?_
      refine al_on 15 (iv y149.2.2) hsub rfl (by kernel_rfl) (by kernel_rfl) (fun w hI => s_pure (iv y149.2.2) (by kernel_rfl) ⟨rfl, Below.refl _ _⟩) ?_
      refine al_on 16 (.bool true) hsub rfl (by kernel_rfl) (by kernel_rfl) (fun w hI => s_eql rfl rfl (fun _ => ⟨rfl, Below.refl _ _⟩) (fun h => absurd (a := y135.2.2 = y149.2.2) h25 h)) ?_
      refine alp 17 (.bool true) hsub rfl (by kernel_rfl) (fun _ => (by kernel_rfl)) ?_
      refine alp 18 (.bool true) hsub rfl (by kernel_rfl) (fun _ => (by kernel_rfl)) ?_
      refine al_on 19 (.agg #[iv p2.lo, iv p2.hi, iv p2.toll]) hsub rfl (by kernel_rfl) (by kernel_rfl) (fun w hI => s_loadK hI 8 3 [iv p2.lo, iv p2.hi, iv p2.toll] Try.isAgg30 Try.sizeOf30 rfl rfl rfl rfl ⟨rfl, Below.refl _ _⟩) ?_
      refine al_on 20 (iv y179) hsub rfl (by kernel_rfl) (by kernel_rfl) (fun w hI => s_call 19 [.agg #[iv p2.lo, iv p2.hi, iv p2.toll]] (by kernel_rfl) (L19 _ p2 _ hy180) (fun v' w' h => h)) ?_
      refine al_on 21 (.agg #[iv p2.lo, iv p2.hi, iv p2.toll]) hsub rfl (by kernel_rfl) (by kernel_rfl) (fun w hI => s_loadK hI 8 3 [iv p2.lo, iv p2.hi, iv p2.toll] Try.isAgg30 Try.sizeOf30 rfl rfl rfl rfl ⟨rfl, Below.refl _ _⟩) ?_
      refine al_on 22 (iv y181) hsub rfl (by kernel_rfl) (by kernel_rfl) (fun w hI => s_call 20 [.agg #[iv p2.lo, iv p2.hi, iv p2.toll]] (by kernel_rfl) (L20 _ p2 _ hy182) (fun v' w' h => h)) ?_
      refine al_on 23 (.bool false) hsub rfl (by kernel_rfl) (by kernel_rfl) (fun w hI => s_eql rfl rfl (fun h => absurd (a := y179 = y181) h h26) (fun _ => ⟨rfl, Below.refl _ _⟩)) ?_
      refine alp 24 (.bool false) hsub rfl (by kernel_rfl) (fun _ => (by kernel_rfl)) ?_
      refine alp 25 (.bool false) hsub rfl (by kernel_rfl) (fun _ => (by kernel_rfl)) ?_
      refine al_off 26 hsub rfl (by kernel_rfl) (by kernel_rfl) ?_
      refine al_off 27 hsub rfl (by kernel_rfl) (by kernel_rfl) ?_
      refine al_off 28 hsub rfl (by kernel_rfl) (by kernel_rfl) ?_
      refine al_off 29 hsub rfl (by kernel_rfl) (by kernel_rfl) ?_
      refine al_off 30 hsub rfl (by kernel_rfl) (by kernel_rfl) ?_
      refine alp 31 (.bool false) hsub rfl (by kernel_rfl) (fun _ => (by kernel_rfl)) ?_
      refine alp 32 (.bool false) hsub rfl (by kernel_rfl) (fun _ => (by kernel_rfl)) ?_
      refine al_off 33 hsub rfl (by kernel_rfl) (by kernel_rfl) ?_
      refine al_off 34 hsub rfl (by kernel_rfl) (by kernel_rfl) ?_
      refine al_off 35 hsub rfl (by kernel_rfl) (by kernel_rfl) ?_
      refine al_off 36 hsub rfl (by kernel_rfl) (by kernel_rfl) ?_
      refine al_off 37 hsub rfl (by kernel_rfl) (by kernel_rfl) ?_
      refine alp 38 (.bool false) hsub rfl (by kernel_rfl) (fun _ => (by kernel_rfl)) ?_
      refine alp 39 (.bool false) hsub rfl (by kernel_rfl) (fun _ => (by kernel_rfl)) ?_
      refine al_off 40 hsub rfl (by kernel_rfl) (by kernel_rfl) ?_
      refine alp 41 (.bool false) hsub rfl (by kernel_rfl) (fun _ => (by kernel_rfl)) ?_
      refine alp 42 (.bool false) hsub rfl (by kernel_rfl) (fun _ => (by kernel_rfl)) ?_
      refine any_end (by kernel_rfl) (fun w hI => ?_)
      refine wp_ret ?_
      replace hF := Option.some.inj hF; subst hF
      exact ⟨.bool false, Ret.r1 rfl rfl, ⟨rfl, hI.below⟩⟩
    ·
     refine wp_drawn2 hI [0, 1, 2, 3, 4, 5, 6, 7, 8, 9, 10] (by decide) rfl (by kernel_rfl) (by kernel_rfl) ?_
     intro hsub
     refine al_light 0 (.agg #[iv y107.1, slv g109 y107.2.1.length c110]) hsub rfl (by kernel_rfl) (fun w hI => s_loadK hI 6 2 [iv y107.1, slv g109 y107.2.1.length c110] Try.isAgg24 Try.sizeOf24 rfl rfl rfl rfl ⟨rfl, Below.refl _ _⟩) ?_
     refine al_light 1 (.agg #[iv y121.1, slv g123 y121.2.1.length c124]) hsub rfl (by kernel_rfl) (fun w hI => s_loadK hI 4 2 [iv y121.1, slv g123 y121.2.1.length c124] Try.isAgg24 Try.sizeOf24 rfl rfl rfl rfl ⟨rfl, Below.refl _ _⟩) ?_
     refine al_light 2 (.bool true) hsub rfl (by kernel_rfl) (fun w hI => s_call 18 [.agg #[iv y107.1, slv g109 y107.2.1.length c110], .agg #[iv y121.1, slv g123 y121.2.1.length c124]] (by kernel_rfl) (Does.mono (L18 _ y107.1 (g109.map fun b => ⟨b, 0, none⟩) c110 y107.2.1 y121.1 (g123.map fun b => ⟨b, 0, none⟩) c124 y121.2.1 (hI.rowCells 7 rfl r112) (len_le rfl r112.big) (len_le rfl r112.cap) (hI.rowCells 5 rfl r126) (len_le rfl r126.big) (len_le rfl r126.cap) N _ hy176) (fun v' w' h => ⟨h.1.trans (congrArg Value.bool h22), h.2⟩)) (fun v' w' h => h)) ?_
     refine alp 3 (.bool true) hsub rfl (by kernel_rfl) (fun _ => (by kernel_rfl)) ?_
     refine al_on 4 (iv y107.2.2) hsub rfl (by kernel_rfl) (by kernel_rfl) (fun w hI => s_pure (iv y107.2.2) (by kernel_rfl) ⟨rfl, Below.refl _ _⟩) ?_
     refine al_on 5 (iv y121.2.2) hsub rfl (by kernel_rfl) (by kernel_rfl) (fun w hI => s_pure (iv y121.2.2) (by kernel_rfl) ⟨rfl, Below.refl _ _⟩) ?_
     refine al_on 6 (.bool true) hsub rfl (by kernel_rfl) (by kernel_rfl) (fun w hI => s_eql rfl rfl (fun _ => ⟨rfl, Below.refl _ _⟩) (fun h => absurd (a := y107.2.2 = y121.2.2) h23 h)) ?_
     refine alp 7 (.bool true) hsub rfl (by kernel_rfl) (fun _ => (by kernel_rfl)) ?_
     refine alp 8 (.bool true) hsub rfl (by kernel_rfl) (fun _ => (by kernel_rfl)) ?_
     refine al_on 9 (.agg #[iv y135.1, slv g137 y135.2.1.length c138]) hsub rfl (by kernel_rfl) (by kernel_rfl) (fun w hI => s_loadK hI 2 2 [iv y135.1, slv g137 y135.2.1.length c138] Try.isAgg24 Try.sizeOf24 rfl rfl rfl rfl ⟨rfl, Below.refl _ _⟩) ?_
     refine al_on 10 (.agg #[iv y149.1, slv g151 y149.2.1.length c152]) hsub rfl (by kernel_rfl) (by kernel_rfl) (fun w hI => s_loadK hI 0 2 [iv y149.1, slv g151 y149.2.1.length c152] Try.isAgg24 Try.sizeOf24 rfl rfl rfl rfl ⟨rfl, Below.refl _ _⟩) ?_
     refine al_on 11 (.bool true) hsub rfl (by kernel_rfl) (by kernel_rfl) (fun w hI => s_call 18 [.agg #[iv y135.1, slv g137 y135.2.1.length c138], .agg #[iv y149.1, slv g151 y149.2.1.length c152]] (by kernel_rfl) (Does.mono (L18 _ y135.1 (g137.map fun b => ⟨b, 0, none⟩) c138 y135.2.1 y149.1 (g151.map fun b => ⟨b, 0, none⟩) c152 y149.2.1 (hI.rowCells 3 rfl r140) (len_le rfl r140.big) (len_le rfl r140.cap) (hI.rowCells 1 rfl r154) (len_le rfl r154.big) (len_le rfl r154.cap) N _ hy178) (fun v' w' h => ⟨h.1.trans (congrArg Value.bool h24), h.2⟩)) (fun v' w' h => h)) ?_
     refine alp 12 (.bool true) hsub rfl (by kernel_rfl) (fun _ => (by kernel_rfl)) ?_
     refine alp 13 (.bool true) hsub rfl (by kernel_rfl) (fun _ => (by kernel_rfl)) ?_
     refine al_on 14 (iv y135.2.2) hsub rfl (by kernel_rfl) (by kernel_rfl) (fun w hI => s_pure (iv y135.2.2) (by kernel_rfl) ⟨rfl, Below.refl _ _⟩) ?_
     refine al_on 15 (iv y149.2.2) hsub rfl (by kernel_rfl) (by kernel_rfl) (fun w hI => s_pure (iv y149.2.2) (by kernel_rfl) ⟨rfl, Below.refl _ _⟩) ?_
     refine al_on 16 (.bool false) hsub rfl (by kernel_rfl) (by kernel_rfl) (fun w hI => s_eql rfl rfl (fun h => absurd (a := y135.2.2 = y149.2.2) h h25) (fun _ => ⟨rfl, Below.refl _ _⟩)) ?_
     refine alp 17 (.bool false) hsub rfl (by kernel_rfl) (fun _ => (by kernel_rfl)) ?_
     refine alp 18 (.bool false) hsub rfl (by kernel_rfl) (fun _ => (by kernel_rfl)) ?_
     refine al_off 19 hsub rfl (by kernel_rfl) (by kernel_rfl) ?_
     refine al_off 20 hsub rfl (by kernel_rfl) (by kernel_rfl) ?_
     refine al_off 21 hsub rfl (by kernel_rfl) (by kernel_rfl) ?_
     refine al_off 22 hsub rfl (by kernel_rfl) (by kernel_rfl) ?_
     refine al_off 23 hsub rfl (by kernel_rfl) (by kernel_rfl) ?_
     refine alp 24 (.bool false) hsub rfl (by kernel_rfl) (fun _ => (by kernel_rfl)) ?_
     refine alp 25 (.bool false) hsub rfl (by kernel_rfl) (fun _ => (by kernel_rfl)) ?_
     refine al_off 26 hsub rfl (by kernel_rfl) (by kernel_rfl) ?_
     refine al_off 27 hsub rfl (by kernel_rfl) (by kernel_rfl) ?_
     refine al_off 28 hsub rfl (by kernel_rfl) (by kernel_rfl) ?_
     refine al_off 29 hsub rfl (by kernel_rfl) (by kernel_rfl) ?_
     refine al_off 30 hsub rfl (by kernel_rfl) (by kernel_rfl) ?_
     refine alp 31 (.bool false) hsub rfl (by kernel_rfl) (fun _ => (by kernel_rfl)) ?_
     refine alp 32 (.bool false) hsub rfl (by kernel_rfl) (fun _ => (by kernel_rfl)) ?_
     refine al_off 33 hsub rfl (by kernel_rfl) (by kernel_rfl) ?_
     refine al_off 34 hsub rfl (by kernel_rfl) (by kernel_rfl) ?_
     refine al_off 35 hsub rfl (by kernel_rfl) (by kernel_rfl) ?_
     refine al_off 36 hsub rfl (by kernel_rfl) (by kernel_rfl) ?_
     refine al_off 37 hsub rfl (by kernel_rfl) (by kernel_rfl) ?_
     refine alp 38 (.bool false) hsub rfl (by kernel_rfl) (fun _ => (by kernel_rfl)) ?_
     refine alp 39 (.bool false) hsub rfl (by kernel_rfl) (fun _ => (by kernel_rfl)) ?_
     refine al_off 40 hsub rfl (by kernel_rfl) (by kernel_rfl) ?_
     refine alp 41 (.bool false) hsub rfl (by kernel_rfl) (fun _ => (by kernel_rfl)) ?_
     refine alp 42 (.bool false) hsub rfl (by kernel_rfl) (fun _ => (by kernel_rfl)) ?_
     refine any_end (by kernel_rfl) (fun w hI => ?_)
     refine wp_ret ?_
     replace hF := Option.some.inj hF; subst hF
     exact ⟨.bool false, Ret.r1 rfl rfl, ⟨rfl, hI.below⟩⟩
   ·
    refine wp_drawn2 hI [0, 1, 2, 3, 4, 5, 6, 7, 8, 9, 10] (by decide) rfl (by kernel_rfl) (by kernel_rfl) ?_
    intro hsub
    refine al_light 0 (.agg #[iv y107.1, slv g109 y107.2.1.length c110]) hsub rfl (by kernel_rfl) (fun w hI => s_loadK hI 6 2 [iv y107.1, slv g109 y107.2.1.length c110] Try.isAgg24 Try.sizeOf24 rfl rfl rfl rfl ⟨rfl, Below.refl _ _⟩) ?_
    refine al_light 1 (.agg #[iv y121.1, slv g123 y121.2.1.length c124]) hsub rfl (by kernel_rfl) (fun w hI => s_loadK hI 4 2 [iv y121.1, slv g123 y121.2.1.length c124] Try.isAgg24 Try.sizeOf24 rfl rfl rfl rfl ⟨rfl, Below.refl _ _⟩) ?_
    refine al_light 2 (.bool true) hsub rfl (by kernel_rfl) (fun w hI => s_call 18 [.agg #[iv y107.1, slv g109 y107.2.1.length c110], .agg #[iv y121.1, slv g123 y121.2.1.length c124]] (by kernel_rfl) (Does.mono (L18 _ y107.1 (g109.map fun b => ⟨b, 0, none⟩) c110 y107.2.1 y121.1 (g123.map fun b => ⟨b, 0, none⟩) c124 y121.2.1 (hI.rowCells 7 rfl r112) (len_le rfl r112.big) (len_le rfl r112.cap) (hI.rowCells 5 rfl r126) (len_le rfl r126.big) (len_le rfl r126.cap) N _ hy176) (fun v' w' h => ⟨h.1.trans (congrArg Value.bool h22), h.2⟩)) (fun v' w' h => h)) ?_
    refine alp 3 (.bool true) hsub rfl (by kernel_rfl) (fun _ => (by kernel_rfl)) ?_
    refine al_on 4 (iv y107.2.2) hsub rfl (by kernel_rfl) (by kernel_rfl) (fun w hI => s_pure (iv y107.2.2) (by kernel_rfl) ⟨rfl, Below.refl _ _⟩) ?_
    refine al_on 5 (iv y121.2.2) hsub rfl (by kernel_rfl) (by kernel_rfl) (fun w hI => s_pure (iv y121.2.2) (by kernel_rfl) ⟨rfl, Below.refl _ _⟩) ?_
    refine al_on 6 (.bool true) hsub rfl (by kernel_rfl) (by kernel_rfl) (fun w hI => s_eql rfl rfl (fun _ => ⟨rfl, Below.refl _ _⟩) (fun h => absurd (a := y107.2.2 = y121.2.2) h23 h)) ?_
    refine alp 7 (.bool true) hsub rfl (by kernel_rfl) (fun _ => (by kernel_rfl)) ?_
    refine alp 8 (.bool true) hsub rfl (by kernel_rfl) (fun _ => (by kernel_rfl)) ?_
    refine al_on 9 (.agg #[iv y135.1, slv g137 y135.2.1.length c138]) hsub rfl (by kernel_rfl) (by kernel_rfl) (fun w hI => s_loadK hI 2 2 [iv y135.1, slv g137 y135.2.1.length c138] Try.isAgg24 Try.sizeOf24 rfl rfl rfl rfl ⟨rfl, Below.refl _ _⟩) ?_
    refine al_on 10 (.agg #[iv y149.1, slv g151 y149.2.1.length c152]) hsub rfl (by kernel_rfl) (by kernel_rfl) (fun w hI => s_loadK hI 0 2 [iv y149.1, slv g151 y149.2.1.length c152] Try.isAgg24 Try.sizeOf24 rfl rfl rfl rfl ⟨rfl, Below.refl _ _⟩) ?_
    refine al_on 11 (.bool false) hsub rfl (by kernel_rfl) (by kernel_rfl) (fun w hI => s_call 18 [.agg #[iv y135.1, slv g137 y135.2.1.length c138], .agg #[iv y149.1, slv g151 y149.2.1.length c152]] (by kernel_rfl) (Does.mono (L18 _ y135.1 (g137.map fun b => ⟨b, 0, none⟩) c138 y135.2.1 y149.1 (g151.map fun b => ⟨b, 0, none⟩) c152 y149.2.1 (hI.rowCells 3 rfl r140) (len_le rfl r140.big) (len_le rfl r140.cap) (hI.rowCells 1 rfl r154) (len_le rfl r154.big) (len_le rfl r154.cap) N _ hy178) (fun v' w' h => ⟨h.1.trans (congrArg Value.bool (Bool.eq_false_iff.2 h24)), h.2⟩)) (fun v' w' h => h)) ?_
    refine alp 12 (.bool false) hsub rfl (by kernel_rfl) (fun _ => (by kernel_rfl)) ?_
    refine alp 13 (.bool false) hsub rfl (by kernel_rfl) (fun _ => (by kernel_rfl)) ?_
    refine al_off 14 hsub rfl (by kernel_rfl) (by kernel_rfl) ?_
    refine al_off 15 hsub rfl (by kernel_rfl) (by kernel_rfl) ?_
    refine al_off 16 hsub rfl (by kernel_rfl) (by kernel_rfl) ?_
    refine alp 17 (.bool false) hsub rfl (by kernel_rfl) (fun _ => (by kernel_rfl)) ?_
    refine alp 18 (.bool false) hsub rfl (by kernel_rfl) (fun _ => (by kernel_rfl)) ?_
    refine al_off 19 hsub rfl (by kernel_rfl) (by kernel_rfl) ?_
    refine al_off 20 hsub rfl (by kernel_rfl) (by kernel_rfl) ?_
    refine al_off 21 hsub rfl (by kernel_rfl) (by kernel_rfl) ?_
    refine al_off 22 hsub rfl (by kernel_rfl) (by kernel_rfl) ?_
    refine al_off 23 hsub rfl (by kernel_rfl) (by kernel_rfl) ?_
    refine alp 24 (.bool false) hsub rfl (by kernel_rfl) (fun _ => (by kernel_rfl)) ?_
    refine alp 25 (.bool false) hsub rfl (by kernel_rfl) (fun _ => (by kernel_rfl)) ?_
    refine al_off 26 hsub rfl (by kernel_rfl) (by kernel_rfl) ?_
    refine al_off 27 hsub rfl (by kernel_rfl) (by kernel_rfl) ?_
    refine al_off 28 hsub rfl (by kernel_rfl) (by kernel_rfl) ?_
    refine al_off 29 hsub rfl (by kernel_rfl) (by kernel_rfl) ?_
    refine al_off 30 hsub rfl (by kernel_rfl) (by kernel_rfl) ?_
    refine alp 31 (.bool false) hsub rfl (by kernel_rfl) (fun _ => (by kernel_rfl)) ?_
    refine alp 32 (.bool false) hsub rfl (by kernel_rfl) (fun _ => (by kernel_rfl)) ?_
    refine al_off 33 hsub rfl (by kernel_rfl) (by kernel_rfl) ?_
    refine al_off 34 hsub rfl (by kernel_rfl) (by kernel_rfl) ?_
    refine al_off 35 hsub rfl (by kernel_rfl) (by kernel_rfl) ?_
    refine al_off 36 hsub rfl (by kernel_rfl) (by kernel_rfl) ?_
    refine al_off 37 hsub rfl (by kernel_rfl) (by kernel_rfl) ?_
    refine alp 38 (.bool false) hsub rfl (by kernel_rfl) (fun _ => (by kernel_rfl)) ?_
    refine alp 39 (.bool false) hsub rfl (by kernel_rfl) (fun _ => (by kernel_rfl)) ?_
    refine al_off 40 hsub rfl (by kernel_rfl) (by kernel_rfl) ?_
    refine alp 41 (.bool false) hsub rfl (by kernel_rfl) (fun _ => (by kernel_rfl)) ?_
    refine alp 42 (.bool false) hsub rfl (by kernel_rfl) (fun _ => (by kernel_rfl)) ?_
    refine any_end (by kernel_rfl) (fun w hI => ?_)
    refine wp_ret ?_
    replace hF := Option.some.inj hF; subst hF
    exact ⟨.bool false, Ret.r1 rfl rfl, ⟨rfl, hI.below⟩⟩
  ·
   refine wp_drawn2 hI [0, 1, 2, 3, 4, 5, 6, 7, 8, 9, 10] (by decide) rfl (by kernel_rfl) (by kernel_rfl) ?_
   intro hsub
   refine al_light 0 (.agg #[iv y107.1, slv g109 y107.2.1.length c110]) hsub rfl (by kernel_rfl) (fun w hI => s_loadK hI 6 2 [iv y107.1, slv g109 y107.2.1.length c110] Try.isAgg24 Try.sizeOf24 rfl rfl rfl rfl ⟨rfl, Below.refl _ _⟩) ?_
   refine al_light 1 (.agg #[iv y121.1, slv g123 y121.2.1.length c124]) hsub rfl (by kernel_rfl) (fun w hI => s_loadK hI 4 2 [iv y121.1, slv g123 y121.2.1.length c124] Try.isAgg24 Try.sizeOf24 rfl rfl rfl rfl ⟨rfl, Below.refl _ _⟩) ?_
   refine al_light 2 (.bool true) hsub rfl (by kernel_rfl) (fun w hI => s_call 18 [.agg #[iv y107.1, slv g109 y107.2.1.length c110], .agg #[iv y121.1, slv g123 y121.2.1.length c124]] (by kernel_rfl) (Does.mono (L18 _ y107.1 (g109.map fun b => ⟨b, 0, none⟩) c110 y107.2.1 y121.1 (g123.map fun b => ⟨b, 0, none⟩) c124 y121.2.1 (hI.rowCells 7 rfl r112) (len_le rfl r112.big) (len_le rfl r112.cap) (hI.rowCells 5 rfl r126) (len_le rfl r126.big) (len_le rfl r126.cap) N _ hy176) (fun v' w' h => ⟨h.1.trans (congrArg Value.bool h22), h.2⟩)) (fun v' w' h => h)) ?_
   refine alp 3 (.bool true) hsub rfl (by kernel_rfl) (fun _ => (by kernel_rfl)) ?_
   refine al_on 4 (iv y107.2.2) hsub rfl (by kernel_rfl) (by kernel_rfl) (fun w hI => s_pure (iv y107.2.2) (by kernel_rfl) ⟨rfl, Below.refl _ _⟩) ?_
   refine al_on 5 (iv y121.2.2) hsub rfl (by kernel_rfl) (by kernel_rfl) (fun w hI => s_pure (iv y121.2.2) (by kernel_rfl) ⟨rfl, Below.refl _ _⟩) ?_
   refine al_on 6 (.bool false) hsub rfl (by kernel_rfl) (by kernel_rfl) (fun w hI => s_eql rfl rfl (fun h => absurd (a := y107.2.2 = y121.2.2) h h23) (fun _ => ⟨rfl, Below.refl _ _⟩)) ?_
   refine alp 7 (.bool false) hsub rfl (by kernel_rfl) (fun _ => (by kernel_rfl)) ?_
   refine alp 8 (.bool false) hsub rfl (by kernel_rfl) (fun _ => (by kernel_rfl)) ?_
   refine al_off 9 hsub rfl (by kernel_rfl) (by kernel_rfl) ?_
   refine al_off 10 hsub rfl (by kernel_rfl) (by kernel_rfl) ?_
   refine al_off 11 hsub rfl (by kernel_rfl) (by kernel_rfl) ?_
   refine alp 12 (.bool false) hsub rfl (by kernel_rfl) (fun _ => (by kernel_rfl)) ?_
   refine alp 13 (.bool false) hsub rfl (by kernel_rfl) (fun _ => (by kernel_rfl)) ?_
   refine al_off 14 hsub rfl (by kernel_rfl) (by kernel_rfl) ?_
   refine al_off 15 hsub rfl (by kernel_rfl) (by kernel_rfl) ?_
   refine al_off 16 hsub rfl (by kernel_rfl) (by kernel_rfl) ?_
   refine alp 17 (.bool false) hsub rfl (by kernel_rfl) (fun _ => (by kernel_rfl)) ?_
   refine alp 18 (.bool false) hsub rfl (by kernel_rfl) (fun _ => (by kernel_rfl)) ?_
   refine al_off 19 hsub rfl (by kernel_rfl) (by kernel_rfl) ?_
   refine al_off 20 hsub rfl (by kernel_rfl) (by kernel_rfl) ?_
   refine al_off 21 hsub rfl (by kernel_rfl) (by kernel_rfl) ?_
   refine al_off 22 hsub rfl (by kernel_rfl) (by kernel_rfl) ?_
   refine al_off 23 hsub rfl (by kernel_rfl) (by kernel_rfl) ?_
   refine alp 24 (.bool false) hsub rfl (by kernel_rfl) (fun _ => (by kernel_rfl)) ?_
   refine alp 25 (.bool false) hsub rfl (by kernel_rfl) (fun _ => (by kernel_rfl)) ?_
   refine al_off 26 hsub rfl (by kernel_rfl) (by kernel_rfl) ?_
   refine al_off 27 hsub rfl (by kernel_rfl) (by kernel_rfl) ?_
   refine al_off 28 hsub rfl (by kernel_rfl) (by kernel_rfl) ?_
   refine al_off 29 hsub rfl (by kernel_rfl) (by kernel_rfl) ?_
   refine al_off 30 hsub rfl (by kernel_rfl) (by kernel_rfl) ?_
   refine alp 31 (.bool false) hsub rfl (by kernel_rfl) (fun _ => (by kernel_rfl)) ?_
   refine alp 32 (.bool false) hsub rfl (by kernel_rfl) (fun _ => (by kernel_rfl)) ?_
   refine al_off 33 hsub rfl (by kernel_rfl) (by kernel_rfl) ?_
   refine al_off 34 hsub rfl (by kernel_rfl) (by kernel_rfl) ?_
   refine al_off 35 hsub rfl (by kernel_rfl) (by kernel_rfl) ?_
   refine al_off 36 hsub rfl (by kernel_rfl) (by kernel_rfl) ?_
   refine al_off 37 hsub rfl (by kernel_rfl) (by kernel_rfl) ?_
   refine alp 38 (.bool false) hsub rfl (by kernel_rfl) (fun _ => (by kernel_rfl)) ?_
   refine alp 39 (.bool false) hsub rfl (by kernel_rfl) (fun _ => (by kernel_rfl)) ?_
   refine al_off 40 hsub rfl (by kernel_rfl) (by kernel_rfl) ?_
   refine alp 41 (.bool false) hsub rfl (by kernel_rfl) (fun _ => (by kernel_rfl)) ?_
   refine alp 42 (.bool false) hsub rfl (by kernel_rfl) (fun _ => (by kernel_rfl)) ?_
   refine any_end (by kernel_rfl) (fun w hI => ?_)
   refine wp_ret ?_
   replace hF := Option.some.inj hF; subst hF
   exact ⟨.bool false, Ret.r1 rfl rfl, ⟨rfl, hI.below⟩⟩
 ·
  refine wp_drawn2 hI [0, 1, 2, 3, 4, 5, 6, 7, 8, 9, 10] (by decide) rfl (by kernel_rfl) (by kernel_rfl) ?_
  intro hsub
  refine al_light 0 (.agg #[iv y107.1, slv g109 y107.2.1.length c110]) hsub rfl (by kernel_rfl) (fun w hI => s_loadK hI 6 2 [iv y107.1, slv g109 y107.2.1.length c110] Try.isAgg24 Try.sizeOf24 rfl rfl rfl rfl ⟨rfl, Below.refl _ _⟩) ?_
  refine al_light 1 (.agg #[iv y121.1, slv g123 y121.2.1.length c124]) hsub rfl (by kernel_rfl) (fun w hI => s_loadK hI 4 2 [iv y121.1, slv g123 y121.2.1.length c124] Try.isAgg24 Try.sizeOf24 rfl rfl rfl rfl ⟨rfl, Below.refl _ _⟩) ?_
  refine al_light 2 (.bool false) hsub rfl (by kernel_rfl) (fun w hI => s_call 18 [.agg #[iv y107.1, slv g109 y107.2.1.length c110], .agg #[iv y121.1, slv g123 y121.2.1.length c124]] (by kernel_rfl) (Does.mono (L18 _ y107.1 (g109.map fun b => ⟨b, 0, none⟩) c110 y107.2.1 y121.1 (g123.map fun b => ⟨b, 0, none⟩) c124 y121.2.1 (hI.rowCells 7 rfl r112) (len_le rfl r112.big) (len_le rfl r112.cap) (hI.rowCells 5 rfl r126) (len_le rfl r126.big) (len_le rfl r126.cap) N _ hy176) (fun v' w' h => ⟨h.1.trans (congrArg Value.bool (Bool.eq_false_iff.2 h22)), h.2⟩)) (fun v' w' h => h)) ?_
  refine alp 3 (.bool false) hsub rfl (by kernel_rfl) (fun _ => (by kernel_rfl)) ?_
  refine al_off 4 hsub rfl (by kernel_rfl) (by kernel_rfl) ?_
  refine al_off 5 hsub rfl (by kernel_rfl) (by kernel_rfl) ?_
  refine al_off 6 hsub rfl (by kernel_rfl) (by kernel_rfl) ?_
  refine alp 7 (.bool false) hsub rfl (by kernel_rfl) (fun _ => (by kernel_rfl)) ?_
  refine alp 8 (.bool false) hsub rfl (by kernel_rfl) (fun _ => (by kernel_rfl)) ?_
  refine al_off 9 hsub rfl (by kernel_rfl) (by kernel_rfl) ?_
  refine al_off 10 hsub rfl (by kernel_rfl) (by kernel_rfl) ?_
  refine al_off 11 hsub rfl (by kernel_rfl) (by kernel_rfl) ?_
  refine alp 12 (.bool false) hsub rfl (by kernel_rfl) (fun _ => (by kernel_rfl)) ?_
  refine alp 13 (.bool false) hsub rfl (by kernel_rfl) (fun _ => (by kernel_rfl)) ?_
  refine al_off 14 hsub rfl (by kernel_rfl) (by kernel_rfl) ?_
  refine al_off 15 hsub rfl (by kernel_rfl) (by kernel_rfl) ?_
  refine al_off 16 hsub rfl (by kernel_rfl) (by kernel_rfl) ?_
  refine alp 17 (.bool false) hsub rfl (by kernel_rfl) (fun _ => (by kernel_rfl)) ?_
  refine alp 18 (.bool false) hsub rfl (by kernel_rfl) (fun _ => (by kernel_rfl)) ?_
  refine al_off 19 hsub rfl (by kernel_rfl) (by kernel_rfl) ?_
  refine al_off 20 hsub rfl (by kernel_rfl) (by kernel_rfl) ?_
  refine al_off 21 hsub rfl (by kernel_rfl) (by kernel_rfl) ?_
  refine al_off 22 hsub rfl (by kernel_rfl) (by kernel_rfl) ?_
  refine al_off 23 hsub rfl (by kernel_rfl) (by kernel_rfl) ?_
  refine alp 24 (.bool false) hsub rfl (by kernel_rfl) (fun _ => (by kernel_rfl)) ?_
  refine alp 25 (.bool false) hsub rfl (by kernel_rfl) (fun _ => (by kernel_rfl)) ?_
  refine al_off 26 hsub rfl (by kernel_rfl) (by kernel_rfl) ?_
  refine al_off 27 hsub rfl (by kernel_rfl) (by kernel_rfl) ?_
  refine al_off 28 hsub rfl (by kernel_rfl) (by kernel_rfl) ?_
  refine al_off 29 hsub rfl (by kernel_rfl) (by kernel_rfl) ?_
  refine al_off 30 hsub rfl (by kernel_rfl) (by kernel_rfl) ?_
  refine alp 31 (.bool false) hsub rfl (by kernel_rfl) (fun _ => (by kernel_rfl)) ?_
  refine alp 32 (.bool false) hsub rfl (by kernel_rfl) (fun _ => (by kernel_rfl)) ?_
  refine al_off 33 hsub rfl (by kernel_rfl) (by kernel_rfl) ?_
  refine al_off 34 hsub rfl (by kernel_rfl) (by kernel_rfl) ?_
  refine al_off 35 hsub rfl (by kernel_rfl) (by kernel_rfl) ?_
  refine al_off 36 hsub rfl (by kernel_rfl) (by kernel_rfl) ?_
  refine al_off 37 hsub rfl (by kernel_rfl) (by kernel_rfl) ?_
  refine alp 38 (.bool false) hsub rfl (by kernel_rfl) (fun _ => (by kernel_rfl)) ?_
  refine alp 39 (.bool false) hsub rfl (by kernel_rfl) (fun _ => (by kernel_rfl)) ?_
  refine al_off 40 hsub rfl (by kernel_rfl) (by kernel_rfl) ?_
  refine alp 41 (.bool false) hsub rfl (by kernel_rfl) (fun _ => (by kernel_rfl)) ?_
  refine alp 42 (.bool false) hsub rfl (by kernel_rfl) (fun _ => (by kernel_rfl)) ?_
  refine any_end (by kernel_rfl) (fun w hI => ?_)
  refine wp_ret ?_
  replace hF := Option.some.inj hF; subst hF
  exact ⟨.bool false, Ret.r1 rfl rfl, ⟨rfl, hI.below⟩⟩


theorem L75 (w0 : World) (p0 : Rg) (p1 : Int) (r : Bool) (hF : F75 p0 p1 = some r) : Does Try.prog 75 [.agg #[.int .i64 p0.lo, .int .i64 p0.hi], .int .i64 p1] w0 fun v w => v = .bool r ∧ Below w0.heap.size w0 w := by
 refine calls_of (n := 21) Try.func75 rfl Try.ntmps75 rfl ?_
 have hI := Inv.start w0
 unfold F75 at hF
 refine wp_seq (rgn (by kernel_rfl) (seq_c (s_boxI hI [iv p0.lo, iv p0.hi] rfl ?_)))
 intro b3 w hI
 refine pu (.bool false) (by kernel_rfl) (seq_nil (wp_seq (rgn (by kernel_rfl) (pu (.pointer (some ⟨b3, 0, none⟩)) (by kernel_rfl) (seq_c (s_load1 hI 0 (iv p0.lo) Try.isAgg3 rfl rfl rfl ?_))))))
 refine ifE hF (fun h10 hF => ?_) (fun h10 hF => ?_)
 ·
  refine seq_c (s_leq rfl rfl (fun _ => ?_) (fun h => absurd (a := 0 ≤ p0.lo) h10 h))
  refine pu (.bool true) (by kernel_rfl) (puo (.pointer (some ⟨b3, 0, none⟩)) ⟨(by kernel_rfl), (by kernel_rfl)⟩ (seq_on (by kernel_rfl) (s_load1 hI 0 (iv p0.lo) Try.isAgg3 rfl rfl rfl ?_)))
  refine puo (.pointer (some ⟨b3, 1, none⟩)) ⟨(by kernel_rfl), (by kernel_rfl)⟩ (seq_on (by kernel_rfl) (s_load1 hI 0 (iv p0.hi) Try.isAgg3 rfl rfl rfl ?_))
  refine ifE hF (fun h11 hF => ?_) (fun h11 hF => ?_)
  ·
   refine seq_on (by kernel_rfl) (s_leq rfl rfl (fun _ => ?_) (fun h => absurd (a := p0.lo ≤ p0.hi) h11 h))
   refine pu (.bool true) (by kernel_rfl) (pu (.bool true) (by kernel_rfl) (puo (.pointer (some ⟨b3, 1, none⟩)) ⟨(by kernel_rfl), (by kernel_rfl)⟩ (seq_on (by kernel_rfl) (s_load1 hI 0 (iv p0.hi) Try.isAgg3 rfl rfl rfl ?_))))
   refine puo (iv p1) ⟨(by kernel_rfl), (by kernel_rfl)⟩ (ifE hF (fun h12 hF => ?_) (fun h12 hF => ?_))
   ·
    refine seq_on (by kernel_rfl) (s_leq rfl rfl (fun _ => ?_) (fun h => absurd (a := p0.hi ≤ p1) h12 h))
    refine pu (.bool true) (by kernel_rfl) (pu (.bool true) (by kernel_rfl) (seq_nil (wp_ret ?_)))
    replace hF := Option.some.inj hF; subst hF
    exact ⟨.bool true, Ret.r1 rfl rfl, ⟨rfl, hI.below⟩⟩
   ·
    refine seq_on (by kernel_rfl) (s_leq rfl rfl (fun h => absurd (a := p0.hi ≤ p1) h h12) (fun _ => ?_))
    refine pu (.bool false) (by kernel_rfl) (pu (.bool false) (by kernel_rfl) (seq_nil (wp_ret ?_)))
    replace hF := Option.some.inj hF; subst hF
    exact ⟨.bool false, Ret.r1 rfl rfl, ⟨rfl, hI.below⟩⟩
  ·
   refine seq_on (by kernel_rfl) (s_leq rfl rfl (fun h => absurd (a := p0.lo ≤ p0.hi) h h11) (fun _ => ?_))
   refine pu (.bool false) (by kernel_rfl) (pu (.bool false) (by kernel_rfl) (of_ (by kernel_rfl) (of_ (by kernel_rfl) (of_ (by kernel_rfl) (of_ (by kernel_rfl) (pu (.bool false) (by kernel_rfl) (pu (.bool false) (by kernel_rfl) (seq_nil (wp_ret ?_)))))))))
   replace hF := Option.some.inj hF; subst hF
   exact ⟨.bool false, Ret.r1 rfl rfl, ⟨rfl, hI.below⟩⟩
 ·
  refine seq_c (s_leq rfl rfl (fun h => absurd (a := 0 ≤ p0.lo) h h10) (fun _ => ?_))
  refine pu (.bool false) (by kernel_rfl) (of_ (by kernel_rfl) (of_ (by kernel_rfl) (of_ (by kernel_rfl) (of_ (by kernel_rfl) (of_ (by kernel_rfl) (pu (.bool false) (by kernel_rfl) (pu (.bool false) (by kernel_rfl) (of_ (by kernel_rfl) (of_ (by kernel_rfl) ?_)))))))))
  refine of_ (by kernel_rfl) (of_ (by kernel_rfl) (pu (.bool false) (by kernel_rfl) (pu (.bool false) (by kernel_rfl) (seq_nil (wp_ret ?_)))))
  replace hF := Option.some.inj hF; subst hF
  exact ⟨.bool false, Ret.r1 rfl rfl, ⟨rfl, hI.below⟩⟩


theorem L27 (w0 : World) (p0 : Yl) (p1 : Rg) (r : (Int × Int × Int)) (hF : F27 p0 p1 = some r) : Does Try.prog 27 [.agg #[.int .i64 p0.lo, .int .i64 p0.hi, .int .i64 p0.toll], .agg #[.int .i64 p1.lo, .int .i64 p1.hi]] w0 fun v w => v = .tuple #[.agg #[.int .i64 r.1, .int .i64 r.2.1], .int .i64 r.2.2] ∧ Below w0.heap.size w0 w := by
 refine calls_of (n := 29) Try.func27 rfl Try.ntmps27 rfl ?_
 have hI := Inv.start w0
 unfold F27 at hF
 refine wp_seq (rgn (by kernel_rfl) (seq_c (s_boxI hI [iv p0.lo, iv p0.hi, iv p0.toll] rfl ?_)))
 intro b20 w hI
 refine seq_c (s_boxI hI [iv p1.lo, iv p1.hi] rfl ?_)
 intro b21 w hI
 refine seq_c (s_allocI hI [iv 0, iv 0] Try.zeroValue28 rfl ?_)
 intro b22 w hI
 refine pu (iv 0) (by kernel_rfl) (seq_nil (wp_seq (wp_seq (rgn (by kernel_rfl) (seq_c (s_loadK hI 2 3 [iv p0.lo, iv p0.hi, iv p0.toll] Try.isAgg30 Try.sizeOf30 rfl rfl rfl rfl ?_))))))
 refine bindE hF (fun y29 hy30 hF => ?_)
 refine seq_c (s_callv hI 20 [.agg #[iv p0.lo, iv p0.hi, iv p0.toll]] (iv y29) (by kernel_rfl) (L20 _ p0 _ hy30) ?_)
 intro w hI
 refine ifE hF (fun h14 hF => ?_) (fun h14 hF => ?_)
 ·
  refine seq_c (s_neq rfl rfl (fun h => absurd (a := y29 = 0) h14 h) (fun _ => ?_))
  refine seq_nil (wp_condF rfl (wp_skip (wp_seq (wp_seq (rgn (by kernel_rfl) (seq_c (s_loadK hI 1 2 [iv p1.lo, iv p1.hi] Try.isAgg28 Try.sizeOf28 rfl rfl rfl rfl ?_)))))))
  refine bindE hF (fun y37 hy38 hF => ?_)
  refine ifE hF (fun h18 hF => ?_) (fun h18 hF => ?_)
  ·
   refine seq_c (s_callv hI 75 [.agg #[iv p1.lo, iv p1.hi], iv 2000] (.bool true) (by kernel_rfl) (Does.mono (L75 _ p1 2000 _ hy38) (fun v' w' h => ⟨h.1.trans (congrArg Value.bool h18), h.2⟩)) ?_)
   intro w hI
   refine pu (.bool false) (by kernel_rfl) (seq_nil (wp_condF rfl (wp_skip (wp_seq (rgn (by kernel_rfl) (pu (.pointer (some ⟨b21, 0, none⟩)) (by kernel_rfl) (seq_c (s_load1 hI 1 (iv p1.lo) Try.isAgg3 rfl rfl rfl ?_))))))))
   refine pu (.pointer (some ⟨b20, 0, none⟩)) (by kernel_rfl) (pu (.pointer (some ⟨b20, 0, none⟩)) (by kernel_rfl) (seq_c (s_load1 hI 2 (iv p0.lo) Try.isAgg3 rfl rfl rfl ?_)))
   refine ckE hF (fun h19 hF => ?_)
   refine seq_c (s_mul rfl rfl h19 ?_)
   refine seq_c (s_quo rfl rfl (by decide) h19 ?_)
   refine pu (.pointer (some ⟨b21, 1, none⟩)) (by kernel_rfl) (seq_c (s_load1 hI 1 (iv p1.hi) Try.isAgg3 rfl rfl rfl ?_))
   refine pu (.pointer (some ⟨b20, 0, none⟩)) (by kernel_rfl) (pu (.pointer (some ⟨b20, 1, none⟩)) (by kernel_rfl) (seq_c (s_load1 hI 2 (iv p0.hi) Try.isAgg3 rfl rfl rfl ?_)))
   refine ckE hF (fun h20 hF => ?_)
   refine seq_c (s_mul rfl rfl h20 ?_)
   refine seq_c (s_quo rfl rfl (by decide) h20 ?_)
   refine pu (.agg #[iv ((p1.lo * p0.lo).tdiv 100), iv ((p1.hi * p0.hi).tdiv 100)]) (by kernel_rfl) (seq_c (s_store hI 0 2 [iv ((p1.lo * p0.lo).tdiv 100), iv ((p1.hi * p0.hi).tdiv 100)] Try.sizeOf28 rfl rfl rfl rfl rfl (Nat.le_of_ble_eq_true rfl) ?_))
   intro w hI
   refine pu (iv 0) (by kernel_rfl) (seq_nil (wp_ret ?_))
   replace hF := Option.some.inj hF; subst hF
   exact ⟨.tuple #[.agg #[iv ((p1.lo * p0.lo).tdiv 100), iv ((p1.hi * p0.hi).tdiv 100)], iv 0], Ret.ct rfl rfl (run_loadK hI 0 2 [iv ((p1.lo * p0.lo).tdiv 100), iv ((p1.hi * p0.hi).tdiv 100)] Try.isAgg28 Try.sizeOf28 rfl rfl rfl) rfl, ⟨rfl, hI.below⟩⟩
  ·
   refine seq_c (s_callv hI 75 [.agg #[iv p1.lo, iv p1.hi], iv 2000] (.bool false) (by kernel_rfl) (Does.mono (L75 _ p1 2000 _ hy38) (fun v' w' h => ⟨h.1.trans (congrArg Value.bool (Bool.eq_false_iff.2 h18)), h.2⟩)) ?_)
   intro w hI
   refine pu (.bool true) (by kernel_rfl) (seq_nil (wp_condT rfl (wp_seq (rgn (by kernel_rfl) (pu (.agg #[iv 0, iv 0]) (by kernel_rfl) (seq_c (s_store hI 0 2 [iv 0, iv 0] Try.sizeOf28 rfl rfl rfl rfl rfl (Nat.le_of_ble_eq_true rfl) ?_)))))))
   intro w hI
   refine pu (iv 58) (by kernel_rfl) (seq_nil (wp_ret ?_))
   replace hF := Option.some.inj hF; subst hF
   exact ⟨.tuple #[.agg #[iv 0, iv 0], iv 58], Ret.ct rfl rfl (run_loadK hI 0 2 [iv 0, iv 0] Try.isAgg28 Try.sizeOf28 rfl rfl rfl) rfl, ⟨rfl, hI.below⟩⟩
 ·
  refine seq_c (s_neq rfl rfl (fun _ => ?_) (fun h => absurd (a := y29 = 0) h h14))
  refine seq_nil (wp_condT rfl (wp_seq (rgn (by kernel_rfl) (pu (.agg #[iv 0, iv 0]) (by kernel_rfl) (seq_c (s_store hI 0 2 [iv 0, iv 0] Try.sizeOf28 rfl rfl rfl rfl rfl (Nat.le_of_ble_eq_true rfl) ?_))))))
  intro w hI
  refine pu (iv 50) (by kernel_rfl) (seq_nil (wp_ret ?_))
  replace hF := Option.some.inj hF; subst hF
  exact ⟨.tuple #[.agg #[iv 0, iv 0], iv 50], Ret.ct rfl rfl (run_loadK hI 0 2 [iv 0, iv 0] Try.isAgg28 Try.sizeOf28 rfl rfl rfl) rfl, ⟨rfl, hI.below⟩⟩


theorem L28 (w0 : World) (p0 : Yl) (p1 : Int) (r : (Int × Int)) (hF : F28 p0 p1 = some r) : Does Try.prog 28 [.agg #[.int .i64 p0.lo, .int .i64 p0.hi, .int .i64 p0.toll], .int .i64 p1] w0 fun v w => v = .tuple #[.int .i64 r.1, .int .i64 r.2] ∧ Below w0.heap.size w0 w := by
 refine calls_of (n := 18) Try.func28 rfl Try.ntmps28 rfl ?_
 have hI := Inv.start w0
 unfold F28 at hF
 refine wp_seq (rgn (by kernel_rfl) (seq_c (s_boxI hI [iv p0.lo, iv p0.hi, iv p0.toll] rfl ?_)))
 intro b18 w hI
 refine pu (iv 0) (by kernel_rfl) (pu (iv 0) (by kernel_rfl) (seq_nil (wp_seq (wp_seq (bindE hF (fun y31 hy32 hF => ?_))))))
 refine bindE hF (fun y33 hy34 hF => ?_)
 refine wp_drawn2 hI [0] (by decide) rfl (by kernel_rfl) (by kernel_rfl) ?_
 intro hsub
 refine al_light 0 (.agg #[iv p0.lo, iv p0.hi, iv p0.toll]) hsub rfl (by kernel_rfl) (fun w hI => s_loadK hI 0 3 [iv p0.lo, iv p0.hi, iv p0.toll] Try.isAgg30 Try.sizeOf30 rfl rfl rfl rfl ⟨rfl, Below.refl _ _⟩) ?_
 refine alp 1 (iv p1) hsub rfl (by kernel_rfl) (fun _ => (by kernel_rfl)) ?_
 refine al_light 2 (.bool y31) hsub rfl (by kernel_rfl) (fun w hI => s_call 70 [iv p1, iv 0, iv 20000] (by kernel_rfl) (L70 _ p1 0 20000 _ hy32) (fun v' w' h => h)) ?_
 refine al_light 3 (iv y33) hsub rfl (by kernel_rfl) (fun w hI => s_call 73 [.agg #[iv p0.lo, iv p0.hi, iv p0.toll], .bool y31] (by kernel_rfl) (L73 _ p0 y31 _ hy34) (fun v' w' h => h)) ?_
 refine alp 4 (iv y33) hsub rfl (by kernel_rfl) (fun _ => (by kernel_rfl)) ?_
 refine any_end (by kernel_rfl) (fun w hI => ?_)
 refine wp_seq (rgn (by kernel_rfl) (pu (iv y33) (by kernel_rfl) (ifE hF (fun h10 hF => ?_) (fun h10 hF => ?_))))
 ·
  refine seq_c (s_neq rfl rfl (fun h => absurd (a := y33 = 0) h10 h) (fun _ => ?_))
  refine seq_nil (wp_condF rfl (wp_skip (wp_seq (rgn (by kernel_rfl) (pu (iv p1) (by kernel_rfl) (pu (.pointer (some ⟨b18, 2, none⟩)) (by kernel_rfl) (seq_c (s_load1 hI 0 (iv p0.toll) Try.isAgg3 rfl rfl rfl ?_))))))))
  refine gdE hF (fun h11 hF => ?_)
  refine ckE hF (fun h12 hF => ?_)
  refine seq_c (s_quo rfl rfl h11 h12 ?_)
  refine pu (iv (p1.tdiv p0.toll)) (by kernel_rfl) (pu (iv 0) (by kernel_rfl) (seq_nil (wp_ret ?_)))
  replace hF := Option.some.inj hF; subst hF
  exact ⟨.tuple #[iv (p1.tdiv p0.toll), iv 0], Ret.r2 rfl rfl rfl, ⟨rfl, hI.below⟩⟩
 ·
  refine seq_c (s_neq rfl rfl (fun _ => ?_) (fun h => absurd (a := y33 = 0) h h10))
  refine seq_nil (wp_condT rfl (wp_seq (rgn (by kernel_rfl) (pu (iv y33) (by kernel_rfl) (pu (iv 0) (by kernel_rfl) (pu (iv y33) (by kernel_rfl) (seq_nil (wp_ret ?_))))))))
  replace hF := Option.some.inj hF; subst hF
  exact ⟨.tuple #[iv 0, iv y33], Ret.r2 rfl rfl rfl, ⟨rfl, hI.below⟩⟩


theorem L29 (w0 : World) (p0 : Yl) (p1 : Int) (r : (Int × Int)) (hF : F29 p0 p1 = some r) : Does Try.prog 29 [.agg #[.int .i64 p0.lo, .int .i64 p0.hi, .int .i64 p0.toll], .int .i64 p1] w0 fun v w => v = .tuple #[.int .i64 r.1, .int .i64 r.2] ∧ Below w0.heap.size w0 w := by
 refine calls_of (n := 16) Try.func29 rfl Try.ntmps29 rfl ?_
 have hI := Inv.start w0
 unfold F29 at hF
 refine wp_seq (rgn (by kernel_rfl) (seq_c (s_boxI hI [iv p0.lo, iv p0.hi, iv p0.toll] rfl ?_)))
 intro b18 w hI
 refine pu (iv 0) (by kernel_rfl) (pu (iv 0) (by kernel_rfl) (seq_nil (wp_seq (wp_seq (rgn (by kernel_rfl) (seq_c (s_loadK hI 0 3 [iv p0.lo, iv p0.hi, iv p0.toll] Try.isAgg30 Try.sizeOf30 rfl rfl rfl rfl ?_)))))))
 refine bindE hF (fun y25 hy26 hF => ?_)
 refine seq_c (s_callv hI 20 [.agg #[iv p0.lo, iv p0.hi, iv p0.toll]] (iv y25) (by kernel_rfl) (L20 _ p0 _ hy26) ?_)
 intro w hI
 refine ifE hF (fun h14 hF => ?_) (fun h14 hF => ?_)
 ·
  refine seq_c (s_neq rfl rfl (fun h => absurd (a := y25 = 0) h14 h) (fun _ => ?_))
  refine seq_nil (wp_condF rfl (wp_skip (wp_seq (wp_seq (rgn (by kernel_rfl) (pu (iv p1) (by kernel_rfl) (bindE hF (fun y33 hy34 hF => ?_))))))))
  refine ifE hF (fun h18 hF => ?_) (fun h18 hF => ?_)
  ·
   refine seq_c (s_callv hI 71 [iv p1, iv 0, iv 20000] (.bool true) (by kernel_rfl) (Does.mono (L71 _ p1 0 20000 _ hy34) (fun v' w' h => ⟨h.1.trans (congrArg Value.bool h18), h.2⟩)) ?_)
   intro w hI
   refine pu (.bool false) (by kernel_rfl) (seq_nil (wp_condF rfl (wp_skip (wp_seq (rgn (by kernel_rfl) (pu (iv p1) (by kernel_rfl) (pu (.pointer (some ⟨b18, 2, none⟩)) (by kernel_rfl) (seq_c (s_load1 hI 0 (iv p0.toll) Try.isAgg3 rfl rfl rfl ?_)))))))))
   refine gdE hF (fun h19 hF => ?_)
   refine ckE hF (fun h20 hF => ?_)
   refine seq_c (s_quo rfl rfl h19 h20 ?_)
   refine pu (iv (p1.tdiv p0.toll)) (by kernel_rfl) (pu (iv 0) (by kernel_rfl) (seq_nil (wp_ret ?_)))
   replace hF := Option.some.inj hF; subst hF
   exact ⟨.tuple #[iv (p1.tdiv p0.toll), iv 0], Ret.r2 rfl rfl rfl, ⟨rfl, hI.below⟩⟩
  ·
   refine seq_c (s_callv hI 71 [iv p1, iv 0, iv 20000] (.bool false) (by kernel_rfl) (Does.mono (L71 _ p1 0 20000 _ hy34) (fun v' w' h => ⟨h.1.trans (congrArg Value.bool (Bool.eq_false_iff.2 h18)), h.2⟩)) ?_)
   intro w hI
   refine pu (.bool true) (by kernel_rfl) (seq_nil (wp_condT rfl (wp_seq (rgn (by kernel_rfl) (pu (iv 0) (by kernel_rfl) (pu (iv 58) (by kernel_rfl) (seq_nil (wp_ret ?_))))))))
   replace hF := Option.some.inj hF; subst hF
   exact ⟨.tuple #[iv 0, iv 58], Ret.r2 rfl rfl rfl, ⟨rfl, hI.below⟩⟩
 ·
  refine seq_c (s_neq rfl rfl (fun _ => ?_) (fun h => absurd (a := y25 = 0) h h14))
  refine seq_nil (wp_condT rfl (wp_seq (rgn (by kernel_rfl) (pu (iv 0) (by kernel_rfl) (pu (iv 50) (by kernel_rfl) (seq_nil (wp_ret ?_)))))))
  replace hF := Option.some.inj hF; subst hF
  exact ⟨.tuple #[iv 0, iv 50], Ret.r2 rfl rfl rfl, ⟨rfl, hI.below⟩⟩


theorem L77 (w0 : World) (p0 : Yl) (p1 : Int) (p2 : Int) (r : Int) (hF : F77 p0 p1 p2 = some r) : Does Try.prog 77 [.agg #[.int .i64 p0.lo, .int .i64 p0.hi, .int .i64 p0.toll], .int .i64 p1, .int .i64 p2] w0 fun v w => v = .int .i64 r ∧ Below w0.heap.size w0 w := by
 refine calls_of (n := 18) Try.func77 rfl Try.ntmps77 rfl ?_
 have hI := Inv.start w0
 unfold F77 at hF
 refine wp_seq (rgn (by kernel_rfl) (seq_c (s_boxI hI [iv p0.lo, iv p0.hi, iv p0.toll] rfl ?_)))
 intro b2 w hI
 refine pu (iv 0) (by kernel_rfl) (seq_nil (wp_seq (rgn (by kernel_rfl) (pu (iv p1) (by kernel_rfl) (pu (iv p2) (by kernel_rfl) (ckE hF (fun h5 hF => ?_)))))))
 refine seq_c (s_mul rfl rfl h5 ?_)
 refine seq_c (s_quo rfl rfl (by decide) h5 ?_)
 refine pu (iv ((p1 * p2).tdiv 100)) (by kernel_rfl) (seq_nil (wp_seq (rgn (by kernel_rfl) (pu (iv ((p1 * p2).tdiv 100)) (by kernel_rfl) (pu (iv ((p1 * p2).tdiv 100)) (by kernel_rfl) (pu (.pointer (some ⟨b2, 2, none⟩)) (by kernel_rfl) (seq_c (s_load1 hI 0 (iv p0.toll) Try.isAgg3 rfl rfl rfl ?_))))))))
 refine gdE hF (fun h6 hF => ?_)
 refine ckE hF (fun h7 hF => ?_)
 refine seq_c (s_quo rfl rfl h6 h7 ?_)
 refine ckE hF (fun h8 hF => ?_)
 refine seq_c (s_sub rfl rfl h8 ?_)
 refine pu (iv (((p1 * p2).tdiv 100) - (((p1 * p2).tdiv 100).tdiv p0.toll))) (by kernel_rfl) (seq_nil (wp_ret ?_))
 replace hF := Option.some.inj hF; subst hF
 exact ⟨iv (((p1 * p2).tdiv 100) - (((p1 * p2).tdiv 100).tdiv p0.toll)), Ret.r1 rfl rfl, ⟨rfl, hI.below⟩⟩


theorem L31 (w0 : World) (p0 : Yl) (p1 : Rg) (r : (Int × Int × Int)) (hF : F31 p0 p1 = some r) : Does Try.prog 31 [.agg #[.int .i64 p0.lo, .int .i64 p0.hi, .int .i64 p0.toll], .agg #[.int .i64 p1.lo, .int .i64 p1.hi]] w0 fun v w => v = .tuple #[.agg #[.int .i64 r.1, .int .i64 r.2.1], .int .i64 r.2.2] ∧ Below w0.heap.size w0 w := by
 refine calls_of (n := 33) Try.func31 rfl Try.ntmps31 rfl ?_
 have hI := Inv.start w0
 unfold F31 at hF
 refine wp_seq (rgn (by kernel_rfl) (seq_c (s_boxI hI [iv p0.lo, iv p0.hi, iv p0.toll] rfl ?_)))
 intro b18 w hI
 refine seq_c (s_boxI hI [iv p1.lo, iv p1.hi] rfl ?_)
 intro b19 w hI
 refine seq_c (s_allocI hI [iv 0, iv 0] Try.zeroValue28 rfl ?_)
 intro b20 w hI
 refine pu (iv 0) (by kernel_rfl) (seq_nil (wp_seq (rgn (by kernel_rfl) (seq_c (s_loadK hI 2 3 [iv p0.lo, iv p0.hi, iv p0.toll] Try.isAgg30 Try.sizeOf30 rfl rfl rfl rfl ?_)))))
 refine seq_c (s_loadK hI 1 2 [iv p1.lo, iv p1.hi] Try.isAgg28 Try.sizeOf28 rfl rfl rfl rfl ?_)
 refine bindE hF (fun y24 hy25 hF => ?_)
 refine seq_c (s_callv hI 27 [.agg #[iv p0.lo, iv p0.hi, iv p0.toll], .agg #[iv p1.lo, iv p1.hi]] (.tuple #[.agg #[iv y24.1, iv y24.2.1], iv y24.2.2]) (by kernel_rfl) (L27 _ p0 p1 _ hy25) ?_)
 intro w hI
 refine pu (.tuple #[.agg #[iv y24.1, iv y24.2.1], iv y24.2.2]) (by kernel_rfl) (pu (.agg #[iv y24.1, iv y24.2.1]) (by kernel_rfl) (pu (iv y24.2.2) (by kernel_rfl) (seq_c (s_allocI hI [iv 0, iv 0] Try.zeroValue28 rfl ?_))))
 intro b26 w hI
 refine seq_c (s_store hI 0 2 [iv y24.1, iv y24.2.1] Try.sizeOf28 rfl rfl rfl rfl rfl (Nat.le_of_ble_eq_true rfl) ?_)
 intro w hI
 refine pu (iv y24.2.2) (by kernel_rfl) (seq_nil (wp_seq (wp_seq (rgn (by kernel_rfl) (pu (iv y24.2.2) (by kernel_rfl) (ifE hF (fun h8 hF => ?_) (fun h8 hF => ?_)))))))
 ·
  refine seq_c (s_neq rfl rfl (fun h => absurd (a := y24.2.2 = 0) h8 h) (fun _ => ?_))
  refine seq_nil (wp_condF rfl (wp_skip (wp_seq (bindE hF (fun y31 hy32 hF => ?_)))))
  refine bindE hF (fun y33 hy34 hF => ?_)
  replace hI := hI.pickL [0, 2, 3, 1] (by decide) rfl
  refine wp_drawn2 hI [0, 1, 2] (by decide) rfl (by kernel_rfl) (by kernel_rfl) ?_
  intro hsub
  refine al_light 0 (.agg #[iv p0.lo, iv p0.hi, iv p0.toll]) hsub rfl (by kernel_rfl) (fun w hI => s_loadK hI 2 3 [iv p0.lo, iv p0.hi, iv p0.toll] Try.isAgg30 Try.sizeOf30 rfl rfl rfl rfl ⟨rfl, Below.refl _ _⟩) ?_
  refine alp 1 (.pointer (some ⟨b19, 0, none⟩)) hsub rfl (by kernel_rfl) (fun _ => (by kernel_rfl)) ?_
  refine al_light 2 (iv p1.lo) hsub rfl (by kernel_rfl) (fun w hI => s_load1 hI 1 (iv p1.lo) Try.isAgg3 rfl rfl rfl ⟨rfl, Below.refl _ _⟩) ?_
  refine alp 3 (.pointer (some ⟨b18, 0, none⟩)) hsub rfl (by kernel_rfl) (fun _ => (by kernel_rfl)) ?_
  refine alp 4 (.pointer (some ⟨b18, 0, none⟩)) hsub rfl (by kernel_rfl) (fun _ => (by kernel_rfl)) ?_
  refine al_light 5 (iv p0.lo) hsub rfl (by kernel_rfl) (fun w hI => s_load1 hI 2 (iv p0.lo) Try.isAgg3 rfl rfl rfl ⟨rfl, Below.refl _ _⟩) ?_
  refine al_light 6 (iv y31) hsub rfl (by kernel_rfl) (fun w hI => s_call 77 [.agg #[iv p0.lo, iv p0.hi, iv p0.toll], iv p1.lo, iv p0.lo] (by kernel_rfl) (L77 _ p0 p1.lo p0.lo _ hy32) (fun v' w' h => h)) ?_
  refine al_light 7 (.agg #[iv p0.lo, iv p0.hi, iv p0.toll]) hsub rfl (by kernel_rfl) (fun w hI => s_loadK hI 2 3 [iv p0.lo, iv p0.hi, iv p0.toll] Try.isAgg30 Try.sizeOf30 rfl rfl rfl rfl ⟨rfl, Below.refl _ _⟩) ?_
  refine alp 8 (.pointer (some ⟨b19, 1, none⟩)) hsub rfl (by kernel_rfl) (fun _ => (by kernel_rfl)) ?_
  refine al_light 9 (iv p1.hi) hsub rfl (by kernel_rfl) (fun w hI => s_load1 hI 1 (iv p1.hi) Try.isAgg3 rfl rfl rfl ⟨rfl, Below.refl _ _⟩) ?_
  refine alp 10 (.pointer (some ⟨b18, 0, none⟩)) hsub rfl (by kernel_rfl) (fun _ => (by kernel_rfl)) ?_
  refine alp 11 (.pointer (some ⟨b18, 1, none⟩)) hsub rfl (by kernel_rfl) (fun _ => (by kernel_rfl)) ?_
  refine al_light 12 (iv p0.hi) hsub rfl (by kernel_rfl) (fun w hI => s_load1 hI 2 (iv p0.hi) Try.isAgg3 rfl rfl rfl ⟨rfl, Below.refl _ _⟩) ?_
  refine al_light 13 (iv y33) hsub rfl (by kernel_rfl) (fun w hI => s_call 77 [.agg #[iv p0.lo, iv p0.hi, iv p0.toll], iv p1.hi, iv p0.hi] (by kernel_rfl) (L77 _ p0 p1.hi p0.hi _ hy34) (fun v' w' h => h)) ?_
  refine alp 14 (.agg #[iv y31, iv y33]) hsub rfl (by kernel_rfl) (fun _ => (by kernel_rfl)) ?_
  refine any_heavy [15] (by kernel_rfl) rfl (each1 ?_)
  intro w hI
  refine ol_c rfl (s_store hI 3 2 [iv y31, iv y33] Try.sizeOf28 rfl rfl rfl rfl rfl (Nat.le_of_ble_eq_true rfl) ?_)
  intro w hI
  refine ⟨_, hI, subk (fun _ h => h.pickL [0, 1, 2] (by decide) rfl) ?_⟩
  intro hsub
  refine alp 16 (iv 0) hsub rfl (by kernel_rfl) (fun _ => (by kernel_rfl)) ?_
  refine any_end (by kernel_rfl) (fun w hI => ?_)
  refine wp_ret ?_
  replace hF := Option.some.inj hF; subst hF
  exact ⟨.tuple #[.agg #[iv y31, iv y33], iv 0], Ret.ct rfl rfl (run_loadK hI 3 2 [iv y31, iv y33] Try.isAgg28 Try.sizeOf28 rfl rfl rfl) rfl, ⟨rfl, hI.below⟩⟩
 ·
  refine seq_c (s_neq rfl rfl (fun _ => ?_) (fun h => absurd (a := y24.2.2 = 0) h h8))
  refine seq_nil (wp_condT rfl (wp_seq (rgn (by kernel_rfl) (pu (.agg #[iv 0, iv 0]) (by kernel_rfl) (pu (iv y24.2.2) (by kernel_rfl) (seq_c (s_store hI 1 2 [iv 0, iv 0] Try.sizeOf28 rfl rfl rfl rfl rfl (Nat.le_of_ble_eq_true rfl) ?_)))))))
  intro w hI
  refine pu (iv y24.2.2) (by kernel_rfl) (seq_nil (wp_ret ?_))
  replace hF := Option.some.inj hF; subst hF
  exact ⟨.tuple #[.agg #[iv 0, iv 0], iv y24.2.2], Ret.ct rfl rfl (run_loadK hI 1 2 [iv 0, iv 0] Try.isAgg28 Try.sizeOf28 rfl rfl rfl) rfl, ⟨rfl, hI.below⟩⟩


theorem L79 (w0 : World) (p0 : Yl) (p1 : Int) (p2 : Rg) (N : Nat) (r : Bool) (hF : F79 N p0 p1 p2 = some r) : Does Try.prog 79 [.agg #[.int .i64 p0.lo, .int .i64 p0.hi, .int .i64 p0.toll], .int .i64 p1, .agg #[.int .i64 p2.lo, .int .i64 p2.hi]] w0 fun v w => v = .bool r ∧ Below w0.heap.size w0 w := by
 refine calls_of (n := 47) Try.func79 rfl Try.ntmps79 rfl ?_
 have hI := Inv.start w0
 unfold F79 at hF
 refine wp_seq (rgn (by kernel_rfl) (seq_c (s_boxI hI [iv p0.lo, iv p0.hi, iv p0.toll] rfl ?_)))
 intro b49 w hI
 refine seq_c (s_boxI hI [iv p2.lo, iv p2.hi] rfl ?_)
 intro b50 w hI
 refine pu (.bool false) (by kernel_rfl) (seq_nil (wp_seq (rgn (by kernel_rfl) (pu (.pointer (some ⟨b49, 0, none⟩)) (by kernel_rfl) (pu (.pointer (some ⟨b49, 0, none⟩)) (by kernel_rfl) (seq_c (s_load1 hI 1 (iv p0.lo) Try.isAgg3 rfl rfl rfl ?_)))))))
 refine pu (iv p0.lo) (by kernel_rfl) (seq_nil (wp_seq (rgn (by kernel_rfl) (pu (.pointer (some ⟨b49, 0, none⟩)) (by kernel_rfl) (pu (.pointer (some ⟨b49, 1, none⟩)) (by kernel_rfl) (seq_c (s_load1 hI 1 (iv p0.hi) Try.isAgg3 rfl rfl rfl ?_)))))))
 refine pu (iv p0.hi) (by kernel_rfl) (seq_nil (wp_seq (wp_seq (bindE hF (fun y57 hy58 hF => ?_)))))
 refine ifE hF (fun h58 hF => ?_) (fun h58 hF => ?_)
 ·
  refine wp_drawn2 hI [0, 1] (by decide) rfl (by kernel_rfl) (by kernel_rfl) ?_
  intro hsub
  refine al_light 0 (.agg #[iv p0.lo, iv p0.hi, iv p0.toll]) hsub rfl (by kernel_rfl) (fun w hI => s_loadK hI 1 3 [iv p0.lo, iv p0.hi, iv p0.toll] Try.isAgg30 Try.sizeOf30 rfl rfl rfl rfl ⟨rfl, Below.refl _ _⟩) ?_
  refine alp 1 (iv p1) hsub rfl (by kernel_rfl) (fun _ => (by kernel_rfl)) ?_
  refine alp 2 (iv p0.hi) hsub rfl (by kernel_rfl) (fun _ => (by kernel_rfl)) ?_
  refine al_light 3 (iv y57) hsub rfl (by kernel_rfl) (fun w hI => s_call 77 [.agg #[iv p0.lo, iv p0.hi, iv p0.toll], iv p1, iv p0.hi] (by kernel_rfl) (L77 _ p0 p1 p0.hi _ hy58) (fun v' w' h => h)) ?_
  refine alp 4 (.pointer (some ⟨b50, 0, none⟩)) hsub rfl (by kernel_rfl) (fun _ => (by kernel_rfl)) ?_
  refine al_light 5 (iv p2.lo) hsub rfl (by kernel_rfl) (fun w hI => s_load1 hI 0 (iv p2.lo) Try.isAgg3 rfl rfl rfl ⟨rfl, Below.refl _ _⟩) ?_
  refine al_light 6 (.bool true) hsub rfl (by kernel_rfl) (fun w hI => s_lss rfl rfl (fun _ => ⟨rfl, Below.refl _ _⟩) (fun h => absurd (a := y57 < p2.lo) h58 h)) ?_
  refine any_end (by kernel_rfl) (fun w hI => ?_)
  refine wp_condT rfl (wp_seq (rgn (by kernel_rfl) (pu (.bool false) (by kernel_rfl) (seq_nil (wp_ret ?_)))))
  replace hF := Option.some.inj hF; subst hF
  exact ⟨.bool false, Ret.r1 rfl rfl, ⟨rfl, hI.below⟩⟩
 ·
  refine wp_drawn2 hI [0, 1] (by decide) rfl (by kernel_rfl) (by kernel_rfl) ?_
  intro hsub
  refine al_light 0 (.agg #[iv p0.lo, iv p0.hi, iv p0.toll]) hsub rfl (by kernel_rfl) (fun w hI => s_loadK hI 1 3 [iv p0.lo, iv p0.hi, iv p0.toll] Try.isAgg30 Try.sizeOf30 rfl rfl rfl rfl ⟨rfl, Below.refl _ _⟩) ?_
  refine alp 1 (iv p1) hsub rfl (by kernel_rfl) (fun _ => (by kernel_rfl)) ?_
  refine alp 2 (iv p0.hi) hsub rfl (by kernel_rfl) (fun _ => (by kernel_rfl)) ?_
  refine al_light 3 (iv y57) hsub rfl (by kernel_rfl) (fun w hI => s_call 77 [.agg #[iv p0.lo, iv p0.hi, iv p0.toll], iv p1, iv p0.hi] (by kernel_rfl) (L77 _ p0 p1 p0.hi _ hy58) (fun v' w' h => h)) ?_
  refine alp 4 (.pointer (some ⟨b50, 0, none⟩)) hsub rfl (by kernel_rfl) (fun _ => (by kernel_rfl)) ?_
  refine al_light 5 (iv p2.lo) hsub rfl (by kernel_rfl) (fun w hI => s_load1 hI 0 (iv p2.lo) Try.isAgg3 rfl rfl rfl ⟨rfl, Below.refl _ _⟩) ?_
  refine al_light 6 (.bool false) hsub rfl (by kernel_rfl) (fun w hI => s_lss rfl rfl (fun h => absurd (a := y57 < p2.lo) h h58) (fun _ => ⟨rfl, Below.refl _ _⟩)) ?_
  refine any_end (by kernel_rfl) (fun w hI => ?_)
  refine wp_condF rfl (wp_skip (wp_cutO (fun ρ w => ∃ (lo_75 : Int), Agree ρ [(1, iv p1), (3, .pointer (some ⟨b49, 0, none⟩)), (5, .pointer (some ⟨b50, 0, none⟩)), (7, iv lo_75)] ∧ Inv [] w0 w [(some b49, blk [iv p0.lo, iv p0.hi, iv p0.toll] 30), (some b50, blk [iv p2.lo, iv p2.hi] 28)] ∧ F79j1 p0 p1 p2 lo_75 = some r) ?_ ?_))
  ·
   refine wp_block ?_
   refine wp_loop (fun m ρ w => ∃ (lo_91 : Int) (hi_92 : Int) (mm : Nat), Agree ρ [(1, iv p1), (3, .pointer (some ⟨b49, 0, none⟩)), (5, .pointer (some ⟨b50, 0, none⟩)), (7, iv lo_91), (8, iv hi_92)] ∧ Inv [] w0 w [(some b49, blk [iv p0.lo, iv p0.hi, iv p0.toll] 30), (some b50, blk [iv p2.lo, iv p2.hi] 28)] ∧ F79l2 p0 p1 p2 mm lo_91 hi_92 = some r ∧ mm = m) (m := N) ⟨p0.lo, p0.hi, N, ⟨rfl, rfl, rfl, rfl, rfl, trivial⟩, hI.pickL [1, 0] (by decide) rfl, hF, rfl⟩ ?_
   rintro m ρ w ⟨lo_91, hi_92, mm, hag, hI, hF, hm⟩
   subst hm; obtain ⟨ρ, rfl⟩ := hag.form; clear hag
   obtain _ | m2 := mm
   ·cases (show (none : Option Bool) = some r from hF)
   replace hF : F79b2 p0 p1 p2 (F79l2 p0 p1 p2 m2) lo_91 hi_92 = some r := hF; unfold F79b2 at hF
   refine wp_seq (wp_seq (rgn (by kernel_rfl) (pu (iv lo_91) (by kernel_rfl) (pu (iv hi_92) (by kernel_rfl) (ifE hF (fun h104 hF => ?_) (fun h104 hF => ?_))))))
   ·
    refine seq_c (s_lss rfl rfl (fun _ => ?_) (fun h => absurd (a := lo_91 < hi_92) h104 h))
    refine seq_nil (wp_condT rfl (wp_skip (wp_block ?_)))
    refine wp_seq (rgn (by kernel_rfl) (pu (iv lo_91) (by kernel_rfl) (pu (iv hi_92) (by kernel_rfl) (ckE hF (fun h105 hF => ?_)))))
    refine seq_c (s_add rfl rfl h105 ?_)
    refine seq_c (s_quo rfl rfl (by decide) h105 ?_)
    refine pu (iv ((lo_91 + hi_92).tdiv 2)) (by kernel_rfl) (seq_nil (wp_seq (bindE hF (fun y95 hy96 hF => ?_))))
    refine ifE hF (fun h107 hF => ?_) (fun h107 hF => ?_)
    ·
     refine wp_drawn2 hI [0, 1] (by decide) rfl (by kernel_rfl) (by kernel_rfl) ?_
     intro hsub
     refine al_light 0 (.agg #[iv p0.lo, iv p0.hi, iv p0.toll]) hsub rfl (by kernel_rfl) (fun w hI => s_loadK hI 0 3 [iv p0.lo, iv p0.hi, iv p0.toll] Try.isAgg30 Try.sizeOf30 rfl rfl rfl rfl ⟨rfl, Below.refl _ _⟩) ?_
     refine alp 1 (iv p1) hsub rfl (by kernel_rfl) (fun _ => (by kernel_rfl)) ?_
     refine alp 2 (iv ((lo_91 + hi_92).tdiv 2)) hsub rfl (by kernel_rfl) (fun _ => (by kernel_rfl)) ?_
     refine al_light 3 (iv y95) hsub rfl (by kernel_rfl) (fun w hI => s_call 77 [.agg #[iv p0.lo, iv p0.hi, iv p0.toll], iv p1, iv ((lo_91 + hi_92).tdiv 2)] (by kernel_rfl) (L77 _ p0 p1 ((lo_91 + hi_92).tdiv 2) _ hy96) (fun v' w' h => h)) ?_
     refine alp 4 (.pointer (some ⟨b50, 0, none⟩)) hsub rfl (by kernel_rfl) (fun _ => (by kernel_rfl)) ?_
     refine al_light 5 (iv p2.lo) hsub rfl (by kernel_rfl) (fun w hI => s_load1 hI 1 (iv p2.lo) Try.isAgg3 rfl rfl rfl ⟨rfl, Below.refl _ _⟩) ?_
     refine al_light 6 (.bool true) hsub rfl (by kernel_rfl) (fun w hI => s_geq rfl rfl (fun _ => ⟨rfl, Below.refl _ _⟩) (fun h => absurd (a := p2.lo ≤ y95) h107 h)) ?_
     refine any_end (by kernel_rfl) (fun w hI => ?_)
     refine wp_condT rfl (rgn (by kernel_rfl) (pu (iv ((lo_91 + hi_92).tdiv 2)) (by kernel_rfl) (pu (iv ((lo_91 + hi_92).tdiv 2)) (by kernel_rfl) (seq_nil ?_))))
     exact ⟨rfl, m2, Nat.lt_succ_self _, ⟨lo_91, (lo_91 + hi_92).tdiv 2, m2, ⟨rfl, rfl, rfl, rfl, rfl, trivial⟩, hI.pickL [0, 1] (by decide) rfl, hF, rfl⟩⟩
    ·
     refine wp_drawn2 hI [0, 1] (by decide) rfl (by kernel_rfl) (by kernel_rfl) ?_
     intro hsub
     refine al_light 0 (.agg #[iv p0.lo, iv p0.hi, iv p0.toll]) hsub rfl (by kernel_rfl) (fun w hI => s_loadK hI 0 3 [iv p0.lo, iv p0.hi, iv p0.toll] Try.isAgg30 Try.sizeOf30 rfl rfl rfl rfl ⟨rfl, Below.refl _ _⟩) ?_
     refine alp 1 (iv p1) hsub rfl (by kernel_rfl) (fun _ => (by kernel_rfl)) ?_
     refine alp 2 (iv ((lo_91 + hi_92).tdiv 2)) hsub rfl (by kernel_rfl) (fun _ => (by kernel_rfl)) ?_
     refine al_light 3 (iv y95) hsub rfl (by kernel_rfl) (fun w hI => s_call 77 [.agg #[iv p0.lo, iv p0.hi, iv p0.toll], iv p1, iv ((lo_91 + hi_92).tdiv 2)] (by kernel_rfl) (L77 _ p0 p1 ((lo_91 + hi_92).tdiv 2) _ hy96) (fun v' w' h => h)) ?_
     refine alp 4 (.pointer (some ⟨b50, 0, none⟩)) hsub rfl (by kernel_rfl) (fun _ => (by kernel_rfl)) ?_
     refine al_light 5 (iv p2.lo) hsub rfl (by kernel_rfl) (fun w hI => s_load1 hI 1 (iv p2.lo) Try.isAgg3 rfl rfl rfl ⟨rfl, Below.refl _ _⟩) ?_
     refine al_light 6 (.bool false) hsub rfl (by kernel_rfl) (fun w hI => s_geq rfl rfl (fun h => absurd (a := p2.lo ≤ y95) h h107) (fun _ => ⟨rfl, Below.refl _ _⟩)) ?_
     refine any_end (by kernel_rfl) (fun w hI => ?_)
     refine wp_condF rfl (rgn (by kernel_rfl) (pu (iv ((lo_91 + hi_92).tdiv 2)) (by kernel_rfl) (ckE hF (fun h108 hF => ?_))))
     refine seq_c (s_add rfl rfl h108 ?_)
     refine pu (iv (((lo_91 + hi_92).tdiv 2) + 1)) (by kernel_rfl) (seq_nil ?_)
     exact ⟨rfl, m2, Nat.lt_succ_self _, ⟨((lo_91 + hi_92).tdiv 2) + 1, hi_92, m2, ⟨rfl, rfl, rfl, rfl, rfl, trivial⟩, hI.pickL [0, 1] (by decide) rfl, hF, rfl⟩⟩
   ·
    refine seq_c (s_lss rfl rfl (fun h => absurd (a := lo_91 < hi_92) h h104) (fun _ => ?_))
    refine seq_nil (wp_condF rfl (wp_exit ?_))
    exact .inl ⟨rfl, ⟨lo_91, ⟨rfl, rfl, rfl, rfl, trivial⟩, hI.pickL [0, 1] (by decide) rfl, hF⟩⟩
  ·intro ρ w hJ
   obtain ⟨lo_75, hag, hI, hF⟩ := hJ
   obtain ⟨ρ, rfl⟩ := hag.form; clear hag
   unfold F79j1 at hF
   refine wp_seq (bindE hF (fun y79 hy80 hF => ?_))
   refine ifE hF (fun h84 hF => ?_) (fun h84 hF => ?_)
   ·
    refine wp_drawn2 hI [0, 1] (by decide) rfl (by kernel_rfl) (by kernel_rfl) ?_
    intro hsub
    refine al_light 0 (.agg #[iv p0.lo, iv p0.hi, iv p0.toll]) hsub rfl (by kernel_rfl) (fun w hI => s_loadK hI 0 3 [iv p0.lo, iv p0.hi, iv p0.toll] Try.isAgg30 Try.sizeOf30 rfl rfl rfl rfl ⟨rfl, Below.refl _ _⟩) ?_
    refine alp 1 (iv p1) hsub rfl (by kernel_rfl) (fun _ => (by kernel_rfl)) ?_
    refine alp 2 (iv lo_75) hsub rfl (by kernel_rfl) (fun _ => (by kernel_rfl)) ?_
    refine al_light 3 (iv y79) hsub rfl (by kernel_rfl) (fun w hI => s_call 77 [.agg #[iv p0.lo, iv p0.hi, iv p0.toll], iv p1, iv lo_75] (by kernel_rfl) (L77 _ p0 p1 lo_75 _ hy80) (fun v' w' h => h)) ?_
    refine alp 4 (.pointer (some ⟨b50, 1, none⟩)) hsub rfl (by kernel_rfl) (fun _ => (by kernel_rfl)) ?_
    refine al_light 5 (iv p2.hi) hsub rfl (by kernel_rfl) (fun w hI => s_load1 hI 1 (iv p2.hi) Try.isAgg3 rfl rfl rfl ⟨rfl, Below.refl _ _⟩) ?_
    refine al_light 6 (.bool true) hsub rfl (by kernel_rfl) (fun w hI => s_leq rfl rfl (fun _ => ⟨rfl, Below.refl _ _⟩) (fun h => absurd (a := y79 ≤ p2.hi) h84 h)) ?_
    refine alp 7 (.bool true) hsub rfl (by kernel_rfl) (fun _ => (by kernel_rfl)) ?_
    refine any_end (by kernel_rfl) (fun w hI => ?_)
    refine wp_ret ?_
    replace hF := Option.some.inj hF; subst hF
    exact ⟨.bool true, Ret.r1 rfl rfl, ⟨rfl, hI.below⟩⟩
   ·
    refine wp_drawn2 hI [0, 1] (by decide) rfl (by kernel_rfl) (by kernel_rfl) ?_
    intro hsub
    refine al_light 0 (.agg #[iv p0.lo, iv p0.hi, iv p0.toll]) hsub rfl (by kernel_rfl) (fun w hI => s_loadK hI 0 3 [iv p0.lo, iv p0.hi, iv p0.toll] Try.isAgg30 Try.sizeOf30 rfl rfl rfl rfl ⟨rfl, Below.refl _ _⟩) ?_
    refine alp 1 (iv p1) hsub rfl (by kernel_rfl) (fun _ => (by kernel_rfl)) ?_
    refine alp 2 (iv lo_75) hsub rfl (by kernel_rfl) (fun _ => (by kernel_rfl)) ?_
    refine al_light 3 (iv y79) hsub rfl (by kernel_rfl) (fun w hI => s_call 77 [.agg #[iv p0.lo, iv p0.hi, iv p0.toll], iv p1, iv lo_75] (by kernel_rfl) (L77 _ p0 p1 lo_75 _ hy80) (fun v' w' h => h)) ?_
    refine alp 4 (.pointer (some ⟨b50, 1, none⟩)) hsub rfl (by kernel_rfl) (fun _ => (by kernel_rfl)) ?_
    refine al_light 5 (iv p2.hi) hsub rfl (by kernel_rfl) (fun w hI => s_load1 hI 1 (iv p2.hi) Try.isAgg3 rfl rfl rfl ⟨rfl, Below.refl _ _⟩) ?_
    refine al_light 6 (.bool false) hsub rfl (by kernel_rfl) (fun w hI => s_leq rfl rfl (fun h => absurd (a := y79 ≤ p2.hi) h h84) (fun _ => ⟨rfl, Below.refl _ _⟩)) ?_
    refine alp 7 (.bool false) hsub rfl (by kernel_rfl) (fun _ => (by kernel_rfl)) ?_
    refine any_end (by kernel_rfl) (fun w hI => ?_)
    refine wp_ret ?_
    replace hF := Option.some.inj hF; subst hF
    exact ⟨.bool false, Ret.r1 rfl rfl, ⟨rfl, hI.below⟩⟩


theorem L33 (w0 : World) (p0 : Yl) (p1 : Rg) (N : Nat) (r : (Int × Int × Int)) (hF : F33 N p0 p1 = some r) : Does Try.prog 33 [.agg #[.int .i64 p0.lo, .int .i64 p0.hi, .int .i64 p0.toll], .agg #[.int .i64 p1.lo, .int .i64 p1.hi]] w0 fun v w => v = .tuple #[.agg #[.int .i64 r.1, .int .i64 r.2.1], .int .i64 r.2.2] ∧ Below w0.heap.size w0 w := by
 refine calls_of (n := 37) Try.func33 rfl Try.ntmps33 rfl ?_
 have hI := Inv.start w0
 unfold F33 at hF
 refine wp_seq (rgn (by kernel_rfl) (seq_c (s_boxI hI [iv p0.lo, iv p0.hi, iv p0.toll] rfl ?_)))
 intro b133 w hI
 refine seq_c (s_boxI hI [iv p1.lo, iv p1.hi] rfl ?_)
 intro b134 w hI
 refine seq_c (s_allocI hI [iv 0, iv 0] Try.zeroValue28 rfl ?_)
 intro b135 w hI
 refine pu (iv 0) (by kernel_rfl) (seq_nil (wp_seq (wp_seq (rgn (by kernel_rfl) (seq_c (s_loadK hI 2 3 [iv p0.lo, iv p0.hi, iv p0.toll] Try.isAgg30 Try.sizeOf30 rfl rfl rfl rfl ?_))))))
 refine bindE hF (fun y142 hy143 hF => ?_)
 refine seq_c (s_callv hI 20 [.agg #[iv p0.lo, iv p0.hi, iv p0.toll]] (iv y142) (by kernel_rfl) (L20 _ p0 _ hy143) ?_)
 intro w hI
 refine ifE hF (fun h142 hF => ?_) (fun h142 hF => ?_)
 ·
  refine seq_c (s_neq rfl rfl (fun h => absurd (a := y142 = 0) h142 h) (fun _ => ?_))
  refine seq_nil (wp_condF rfl (wp_skip (wp_seq (wp_seq (rgn (by kernel_rfl) (seq_c (s_loadK hI 1 2 [iv p1.lo, iv p1.hi] Try.isAgg28 Try.sizeOf28 rfl rfl rfl rfl ?_)))))))
  refine bindE hF (fun y150 hy151 hF => ?_)
  refine ifE hF (fun h146 hF => ?_) (fun h146 hF => ?_)
  ·
   refine seq_c (s_callv hI 75 [.agg #[iv p1.lo, iv p1.hi], iv 20000] (.bool true) (by kernel_rfl) (Does.mono (L75 _ p1 20000 _ hy151) (fun v' w' h => ⟨h.1.trans (congrArg Value.bool h146), h.2⟩)) ?_)
   intro w hI
   refine pu (.bool false) (by kernel_rfl) (seq_nil (wp_condF rfl (wp_skip (wp_seq (rgn (by kernel_rfl) (pu (.agg #[iv (-1), iv 0]) (by kernel_rfl) (seq_c (s_allocI hI [iv 0, iv 0] Try.zeroValue28 rfl ?_))))))))
   intro b152 w hI
   refine seq_c (s_store hI 0 2 [iv (-1), iv 0] Try.sizeOf28 rfl rfl rfl rfl rfl (Nat.le_of_ble_eq_true rfl) ?_)
   intro w hI
   refine seq_nil (wp_cutO (fun ρ w => ∃ (out_208 : Int) (out_209 : Int), Agree ρ [(4, .pointer (some ⟨b135, 0, none⟩)), (6, .pointer (some ⟨b152, 0, none⟩))] ∧ Inv [] w0 w [(some b135, blk [iv 0, iv 0] 28), (some b152, blk [iv out_208, iv out_209] 28)] ∧ F33j1 out_208 out_209 = some r) ?_ ?_)
   ·
    refine wp_seq (rgn (by kernel_rfl) (pu (iv 0) (by kernel_rfl) (seq_nil (wp_block ?_))))
    refine wp_loop (fun m ρ w => ∃ (out_250 : Int) (out_251 : Int) (b_252 : Int) (mm : Nat), Agree ρ [(2, .pointer (some ⟨b133, 0, none⟩)), (3, .pointer (some ⟨b134, 0, none⟩)), (4, .pointer (some ⟨b135, 0, none⟩)), (6, .pointer (some ⟨b152, 0, none⟩)), (7, iv b_252)] ∧ Inv [] w0 w [(some b133, blk [iv p0.lo, iv p0.hi, iv p0.toll] 30), (some b134, blk [iv p1.lo, iv p1.hi] 28), (some b135, blk [iv 0, iv 0] 28), (some b152, blk [iv out_250, iv out_251] 28)] ∧ F33l2 p0 p1 N mm out_250 out_251 b_252 = some r ∧ mm = m) (m := N) ⟨-1, 0, 0, N, ⟨rfl, rfl, rfl, rfl, rfl, trivial⟩, hI.pickL [3, 2, 1, 0] (by decide) rfl, hF, rfl⟩ ?_
    rintro m ρ w ⟨out_250, out_251, b_252, mm, hag, hI, hF, hm⟩
    subst hm; obtain ⟨ρ, rfl⟩ := hag.form; clear hag
    obtain _ | m2 := mm
    ·cases (show (none : Option (Int × Int × Int)) = some r from hF)
    replace hF : F33b2 p0 p1 N (F33l2 p0 p1 N m2) out_250 out_251 b_252 = some r := hF; unfold F33b2 at hF
    refine wp_seq (wp_seq (rgn (by kernel_rfl) (pu (iv b_252) (by kernel_rfl) (ifE hF (fun h263 hF => ?_) (fun h263 hF => ?_)))))
    ·
     refine seq_c (s_leq rfl rfl (fun _ => ?_) (fun h => absurd (a := b_252 ≤ 2000) h263 h))
     refine seq_nil (wp_condT rfl (wp_skip (wp_cutO (fun ρ w => ∃ (out_258 : Int) (out_259 : Int), Agree ρ [(2, .pointer (some ⟨b133, 0, none⟩)), (3, .pointer (some ⟨b134, 0, none⟩)), (4, .pointer (some ⟨b135, 0, none⟩)), (6, .pointer (some ⟨b152, 0, none⟩)), (7, iv b_252)] ∧ Inv [] w0 w [(some b133, blk [iv p0.lo, iv p0.hi, iv p0.toll] 30), (some b134, blk [iv p1.lo, iv p1.hi] 28), (some b135, blk [iv 0, iv 0] 28), (some b152, blk [iv out_258, iv out_259] 28)] ∧ F33j3 (F33l2 p0 p1 N m2) b_252 out_258 out_259 = some r) ?_ ?_)))
     ·
      refine wp_block ?_
      refine wp_seq (rgn (by kernel_rfl) (seq_c (s_loadK hI 0 3 [iv p0.lo, iv p0.hi, iv p0.toll] Try.isAgg30 Try.sizeOf30 rfl rfl rfl rfl ?_)))
      refine pu (iv b_252) (by kernel_rfl) (seq_c (s_loadK hI 1 2 [iv p1.lo, iv p1.hi] Try.isAgg28 Try.sizeOf28 rfl rfl rfl rfl ?_))
      refine bindE hF (fun y262 hy263 hF => ?_)
      refine ifE hF (fun h272 hF => ?_) (fun h272 hF => ?_)
      ·
       refine seq_c (s_callv hI 79 [.agg #[iv p0.lo, iv p0.hi, iv p0.toll], iv b_252, .agg #[iv p1.lo, iv p1.hi]] (.bool true) (by kernel_rfl) (Does.mono (L79 _ p0 b_252 p1 N _ hy263) (fun v' w' h => ⟨h.1.trans (congrArg Value.bool h272), h.2⟩)) ?_)
       intro w hI
       refine seq_nil (wp_condT rfl (wp_cutO (fun ρ w => ∃ (out_264 : Int), Agree ρ [(2, .pointer (some ⟨b133, 0, none⟩)), (3, .pointer (some ⟨b134, 0, none⟩)), (4, .pointer (some ⟨b135, 0, none⟩)), (6, .pointer (some ⟨b152, 0, none⟩)), (7, iv b_252)] ∧ Inv [] w0 w [(some b133, blk [iv p0.lo, iv p0.hi, iv p0.toll] 30), (some b134, blk [iv p1.lo, iv p1.hi] 28), (some b135, blk [iv 0, iv 0] 28), (some b152, blk [iv out_264, iv out_251] 28)] ∧ F33j4 (F33l2 p0 p1 N m2) b_252 out_264 = some r) ?_ ?_))
       ·
        refine wp_seq (rgn (by kernel_rfl) (pu (.pointer (some ⟨b152, 0, none⟩)) (by kernel_rfl) (seq_c (s_load1 hI 3 (iv out_250) Try.isAgg3 rfl rfl rfl ?_))))
        refine ifE hF (fun h276 hF => ?_) (fun h276 hF => ?_)
        ·
         refine seq_c (s_lss rfl rfl (fun _ => ?_) (fun h => absurd (a := out_250 < 0) h276 h))
         refine seq_nil (wp_condT rfl (rgn (by kernel_rfl) (pu (iv b_252) (by kernel_rfl) (pu (.pointer (some ⟨b152, 0, none⟩)) (by kernel_rfl) (seq_c (s_store hI 3 1 [iv b_252] Try.sizeOf3 rfl rfl rfl rfl rfl (Nat.le_of_ble_eq_true rfl) ?_))))))
         intro w hI
         refine seq_nil ?_
         exact .inl ⟨rfl, ⟨b_252, ⟨rfl, rfl, rfl, rfl, rfl, trivial⟩, hI.pickL [0, 1, 2, 3] (by decide) rfl, hF⟩⟩
        ·
         refine seq_c (s_lss rfl rfl (fun h => absurd (a := out_250 < 0) h h276) (fun _ => ?_))
         refine seq_nil (wp_condF rfl (wp_skip ?_))
         exact .inl ⟨rfl, ⟨out_250, ⟨rfl, rfl, rfl, rfl, rfl, trivial⟩, hI.pickL [0, 1, 2, 3] (by decide) rfl, hF⟩⟩
       ·intro ρ w hJ
        obtain ⟨out_264, hag, hI, hF⟩ := hJ
        obtain ⟨ρ, rfl⟩ := hag.form; clear hag
        unfold F33j4 at hF
        refine rgn (by kernel_rfl) (pu (iv b_252) (by kernel_rfl) (pu (.pointer (some ⟨b152, 1, none⟩)) (by kernel_rfl) (seq_c (s_store hI 3 1 [iv b_252] Try.sizeOf3 rfl rfl rfl rfl rfl (Nat.le_of_ble_eq_true rfl) ?_))))
        intro w hI
        refine seq_nil ?_
        exact .inl ⟨rfl, ⟨out_264, b_252, ⟨rfl, rfl, rfl, rfl, rfl, trivial⟩, hI.pickL [0, 1, 2, 3] (by decide) rfl, hF⟩⟩
      ·
       refine seq_c (s_callv hI 79 [.agg #[iv p0.lo, iv p0.hi, iv p0.toll], iv b_252, .agg #[iv p1.lo, iv p1.hi]] (.bool false) (by kernel_rfl) (Does.mono (L79 _ p0 b_252 p1 N _ hy263) (fun v' w' h => ⟨h.1.trans (congrArg Value.bool (Bool.eq_false_iff.2 h272)), h.2⟩)) ?_)
       intro w hI
       refine seq_nil (wp_condF rfl (wp_skip ?_))
       exact .inl ⟨rfl, ⟨out_250, out_251, ⟨rfl, rfl, rfl, rfl, rfl, trivial⟩, hI.pickL [0, 1, 2, 3] (by decide) rfl, hF⟩⟩
     ·intro ρ w hJ
      obtain ⟨out_258, out_259, hag, hI, hF⟩ := hJ
      obtain ⟨ρ, rfl⟩ := hag.form; clear hag
      unfold F33j3 at hF
      refine rgn (by kernel_rfl) (pu (iv b_252) (by kernel_rfl) (ckE hF (fun h270 hF => ?_)))
      refine seq_c (s_add rfl rfl h270 ?_)
      refine pu (iv (b_252 + 1)) (by kernel_rfl) (seq_nil ?_)
      exact ⟨rfl, m2, Nat.lt_succ_self _, ⟨out_258, out_259, b_252 + 1, m2, ⟨rfl, rfl, rfl, rfl, rfl, trivial⟩, hI.pickL [0, 1, 2, 3] (by decide) rfl, hF, rfl⟩⟩
    ·
     refine seq_c (s_leq rfl rfl (fun h => absurd (a := b_252 ≤ 2000) h h263) (fun _ => ?_))
     refine seq_nil (wp_condF rfl (wp_exit ?_))
     exact .inl ⟨rfl, ⟨out_250, out_251, ⟨rfl, rfl, trivial⟩, hI.pickL [2, 3] (by decide) rfl, hF⟩⟩
   ·intro ρ w hJ
    obtain ⟨out_208, out_209, hag, hI, hF⟩ := hJ
    obtain ⟨ρ, rfl⟩ := hag.form; clear hag
    unfold F33j1 at hF
    refine wp_seq (wp_seq (rgn (by kernel_rfl) (pu (.pointer (some ⟨b152, 0, none⟩)) (by kernel_rfl) (seq_c (s_load1 hI 1 (iv out_208) Try.isAgg3 rfl rfl rfl ?_)))))
    refine ifE hF (fun h213 hF => ?_) (fun h213 hF => ?_)
    ·
     refine seq_c (s_lss rfl rfl (fun _ => ?_) (fun h => absurd (a := out_208 < 0) h213 h))
     refine seq_nil (wp_condT rfl (wp_seq (rgn (by kernel_rfl) (pu (.agg #[iv 0, iv 0]) (by kernel_rfl) (seq_c (s_store hI 0 2 [iv 0, iv 0] Try.sizeOf28 rfl rfl rfl rfl rfl (Nat.le_of_ble_eq_true rfl) ?_))))))
     intro w hI
     refine pu (iv 3) (by kernel_rfl) (seq_nil (wp_ret ?_))
     replace hF := Option.some.inj hF; subst hF
     exact ⟨.tuple #[.agg #[iv 0, iv 0], iv 3], Ret.ct rfl rfl (run_loadK hI 0 2 [iv 0, iv 0] Try.isAgg28 Try.sizeOf28 rfl rfl rfl) rfl, ⟨rfl, hI.below⟩⟩
    ·
     refine seq_c (s_lss rfl rfl (fun h => absurd (a := out_208 < 0) h h213) (fun _ => ?_))
     refine seq_nil (wp_condF rfl (wp_skip (wp_seq (rgn (by kernel_rfl) (seq_c (s_loadK hI 1 2 [iv out_208, iv out_209] Try.isAgg28 Try.sizeOf28 rfl rfl rfl rfl ?_))))))
     refine seq_c (s_store hI 0 2 [iv out_208, iv out_209] Try.sizeOf28 rfl rfl rfl rfl rfl (Nat.le_of_ble_eq_true rfl) ?_)
     intro w hI
     refine pu (iv 0) (by kernel_rfl) (seq_nil (wp_ret ?_))
     replace hF := Option.some.inj hF; subst hF
     exact ⟨.tuple #[.agg #[iv out_208, iv out_209], iv 0], Ret.ct rfl rfl (run_loadK hI 0 2 [iv out_208, iv out_209] Try.isAgg28 Try.sizeOf28 rfl rfl rfl) rfl, ⟨rfl, hI.below⟩⟩
  ·
   refine seq_c (s_callv hI 75 [.agg #[iv p1.lo, iv p1.hi], iv 20000] (.bool false) (by kernel_rfl) (Does.mono (L75 _ p1 20000 _ hy151) (fun v' w' h => ⟨h.1.trans (congrArg Value.bool (Bool.eq_false_iff.2 h146)), h.2⟩)) ?_)
   intro w hI
   refine pu (.bool true) (by kernel_rfl) (seq_nil (wp_condT rfl (wp_seq (rgn (by kernel_rfl) (pu (.agg #[iv 0, iv 0]) (by kernel_rfl) (seq_c (s_store hI 0 2 [iv 0, iv 0] Try.sizeOf28 rfl rfl rfl rfl rfl (Nat.le_of_ble_eq_true rfl) ?_)))))))
   intro w hI
   refine pu (iv 58) (by kernel_rfl) (seq_nil (wp_ret ?_))
   replace hF := Option.some.inj hF; subst hF
   exact ⟨.tuple #[.agg #[iv 0, iv 0], iv 58], Ret.ct rfl rfl (run_loadK hI 0 2 [iv 0, iv 0] Try.isAgg28 Try.sizeOf28 rfl rfl rfl) rfl, ⟨rfl, hI.below⟩⟩
 ·
  refine seq_c (s_neq rfl rfl (fun _ => ?_) (fun h => absurd (a := y142 = 0) h h142))
  refine seq_nil (wp_condT rfl (wp_seq (rgn (by kernel_rfl) (pu (.agg #[iv 0, iv 0]) (by kernel_rfl) (seq_c (s_store hI 0 2 [iv 0, iv 0] Try.sizeOf28 rfl rfl rfl rfl rfl (Nat.le_of_ble_eq_true rfl) ?_))))))
  intro w hI
  refine pu (iv 50) (by kernel_rfl) (seq_nil (wp_ret ?_))
  replace hF := Option.some.inj hF; subst hF
  exact ⟨.tuple #[.agg #[iv 0, iv 0], iv 50], Ret.ct rfl rfl (run_loadK hI 0 2 [iv 0, iv 0] Try.isAgg28 Try.sizeOf28 rfl rfl rfl) rfl, ⟨rfl, hI.below⟩⟩


theorem L35 (w0 : World) (p0 : Int) (p1 : Int) (r : (Int × Int)) (hF : F35 p0 p1 = some r) : Does Try.prog 35 [.int .i64 p0, .int .i64 p1] w0 fun v w => v = .tuple #[.int .i64 r.1, .int .i64 r.2] ∧ Below w0.heap.size w0 w := by
 refine calls_of (n := 20) Try.func35 rfl Try.ntmps35 rfl ?_
 have hI := Inv.start w0
 unfold F35 at hF
 refine wp_seq (rgn (by kernel_rfl) (pu (iv 0) (by kernel_rfl) (pu (iv 0) (by kernel_rfl) (seq_nil (wp_seq (wp_seq (rgn (by kernel_rfl) (pu (iv p0) (by kernel_rfl) (bindE hF (fun y29 hy30 hF => ?_))))))))))
 refine ifE hF (fun h18 hF => ?_) (fun h18 hF => ?_)
 ·
  refine seq_c (s_callv hI 71 [iv p0, iv 0, iv 20000] (.bool true) (by kernel_rfl) (Does.mono (L71 _ p0 0 20000 _ hy30) (fun v' w' h => ⟨h.1.trans (congrArg Value.bool h18), h.2⟩)) ?_)
  intro w hI
  refine pu (.bool false) (by kernel_rfl) (pu (.bool false) (by kernel_rfl) (puo (iv p1) ⟨(by kernel_rfl), (by kernel_rfl)⟩ (bindE hF (fun y31 hy32 hF => ?_))))
  refine ifE hF (fun h19 hF => ?_) (fun h19 hF => ?_)
  ·
   refine seq_on (by kernel_rfl) (s_callv hI 71 [iv p1, iv 1, iv 20000] (.bool true) (by kernel_rfl) (Does.mono (L71 _ p1 1 20000 _ hy32) (fun v' w' h => ⟨h.1.trans (congrArg Value.bool h19), h.2⟩)) ?_)
   intro w hI
   refine puo (.bool false) ⟨(by kernel_rfl), (by kernel_rfl)⟩ (pu (.bool false) (by kernel_rfl) (seq_nil (wp_condF rfl (wp_skip (wp_seq (rgn (by kernel_rfl) (pu (iv p0) (by kernel_rfl) (pu (iv p1) (by kernel_rfl) (ckE hF (fun h20 hF => ?_))))))))))
   refine seq_c (s_add rfl rfl h20 ?_)
   refine ckE hF (fun h21 hF => ?_)
   refine seq_c (s_sub rfl rfl h21 ?_)
   refine pu (iv p1) (by kernel_rfl) (gdE hF (fun h22 hF => ?_))
   refine seq_c (s_quo rfl rfl h22 h21 ?_)
   refine pu (iv (((p0 + p1) - 1).tdiv p1)) (by kernel_rfl) (pu (iv 0) (by kernel_rfl) (seq_nil (wp_ret ?_)))
   replace hF := Option.some.inj hF; subst hF
   exact ⟨.tuple #[iv (((p0 + p1) - 1).tdiv p1), iv 0], Ret.r2 rfl rfl rfl, ⟨rfl, hI.below⟩⟩
  ·
   refine seq_on (by kernel_rfl) (s_callv hI 71 [iv p1, iv 1, iv 20000] (.bool false) (by kernel_rfl) (Does.mono (L71 _ p1 1 20000 _ hy32) (fun v' w' h => ⟨h.1.trans (congrArg Value.bool (Bool.eq_false_iff.2 h19)), h.2⟩)) ?_)
   intro w hI
   refine puo (.bool true) ⟨(by kernel_rfl), (by kernel_rfl)⟩ (pu (.bool true) (by kernel_rfl) (seq_nil (wp_condT rfl (wp_seq (rgn (by kernel_rfl) (pu (iv 0) (by kernel_rfl) (pu (iv 58) (by kernel_rfl) (seq_nil (wp_ret ?_)))))))))
   replace hF := Option.some.inj hF; subst hF
   exact ⟨.tuple #[iv 0, iv 58], Ret.r2 rfl rfl rfl, ⟨rfl, hI.below⟩⟩
 ·
  refine seq_c (s_callv hI 71 [iv p0, iv 0, iv 20000] (.bool false) (by kernel_rfl) (Does.mono (L71 _ p0 0 20000 _ hy30) (fun v' w' h => ⟨h.1.trans (congrArg Value.bool (Bool.eq_false_iff.2 h18)), h.2⟩)) ?_)
  intro w hI
  refine pu (.bool true) (by kernel_rfl) (pu (.bool true) (by kernel_rfl) (of_ (by kernel_rfl) (of_ (by kernel_rfl) (of_ (by kernel_rfl) (pu (.bool true) (by kernel_rfl) (seq_nil (wp_condT rfl (wp_seq (rgn (by kernel_rfl) ?_)))))))))
  refine pu (iv 0) (by kernel_rfl) (pu (iv 58) (by kernel_rfl) (seq_nil (wp_ret ?_)))
  replace hF := Option.some.inj hF; subst hF
  exact ⟨.tuple #[iv 0, iv 58], Ret.r2 rfl rfl rfl, ⟨rfl, hI.below⟩⟩


theorem L4 (w0 : World) (p0 : Yl) (p1 : Cn) (N : Nat) (r : Bool) (hF : F4 N p0 p1 = some r) : Does Try.prog 4 [.agg #[.int .i64 p0.lo, .int .i64 p0.hi, .int .i64 p0.toll], .agg #[.int .i64 p1.blo, .int .i64 p1.bhi, .int .i64 p1.flo, .int .i64 p1.fhi, .int .i64 p1.gal, .int .i64 p1.hly]] w0 fun v w => v = .bool r ∧ Below w0.heap.size w0 w := by
 refine calls_of (n := 148) Try.func4 rfl Try.ntmps4 rfl ?_
 have hI := Inv.start w0
 unfold F4 at hF
 refine wp_seq (rgn (by kernel_rfl) (seq_c (s_boxI hI [iv p0.lo, iv p0.hi, iv p0.toll] rfl ?_)))
 intro b60 w hI
 refine seq_c (s_boxI hI [iv p1.blo, iv p1.bhi, iv p1.flo, iv p1.fhi, iv p1.gal, iv p1.hly] rfl ?_)
 intro b61 w hI
 refine pu (.bool false) (by kernel_rfl) (seq_nil (wp_seq (rgn (by kernel_rfl) (seq_c (s_loadK hI 1 3 [iv p0.lo, iv p0.hi, iv p0.toll] Try.isAgg30 Try.sizeOf30 rfl rfl rfl rfl ?_)))))
 refine pu (.pointer (some ⟨b61, 0, none⟩)) (by kernel_rfl) (seq_c (s_loadK hI 0 2 [iv p1.blo, iv p1.bhi] Try.isAgg28 Try.sizeOf28 rfl rfl rfl rfl ?_))
 refine bindE hF (fun y65 hy66 hF => ?_)
 refine seq_c (s_callv hI 26 [.agg #[iv p0.lo, iv p0.hi, iv p0.toll], .agg #[iv p1.blo, iv p1.bhi]] (.tuple #[.agg #[iv y65.1, iv y65.2.1], iv y65.2.2]) (by kernel_rfl) (L26 _ p0 (⟨p1.blo, p1.bhi⟩ : Rg) _ hy66) ?_)
 intro w hI
 refine pu (.tuple #[.agg #[iv y65.1, iv y65.2.1], iv y65.2.2]) (by kernel_rfl) (pu (.agg #[iv y65.1, iv y65.2.1]) (by kernel_rfl) (pu (iv y65.2.2) (by kernel_rfl) (seq_c (s_allocI hI [iv 0, iv 0] Try.zeroValue28 rfl ?_))))
 intro b67 w hI
 refine seq_c (s_store hI 0 2 [iv y65.1, iv y65.2.1] Try.sizeOf28 rfl rfl rfl rfl rfl (Nat.le_of_ble_eq_true rfl) ?_)
 intro w hI
 refine pu (iv y65.2.2) (by kernel_rfl) (seq_nil (wp_seq (rgn (by kernel_rfl) (seq_c (s_loadK hI 2 3 [iv p0.lo, iv p0.hi, iv p0.toll] Try.isAgg30 Try.sizeOf30 rfl rfl rfl rfl ?_)))))
 refine pu (.pointer (some ⟨b61, 0, none⟩)) (by kernel_rfl) (seq_c (s_loadK hI 1 2 [iv p1.blo, iv p1.bhi] Try.isAgg28 Try.sizeOf28 rfl rfl rfl rfl ?_))
 refine bindE hF (fun y71 hy72 hF => ?_)
 refine seq_c (s_callv hI 27 [.agg #[iv p0.lo, iv p0.hi, iv p0.toll], .agg #[iv p1.blo, iv p1.bhi]] (.tuple #[.agg #[iv y71.1, iv y71.2.1], iv y71.2.2]) (by kernel_rfl) (L27 _ p0 (⟨p1.blo, p1.bhi⟩ : Rg) _ hy72) ?_)
 intro w hI
 refine pu (.tuple #[.agg #[iv y71.1, iv y71.2.1], iv y71.2.2]) (by kernel_rfl) (pu (.agg #[iv y71.1, iv y71.2.1]) (by kernel_rfl) (pu (iv y71.2.2) (by kernel_rfl) (seq_c (s_allocI hI [iv 0, iv 0] Try.zeroValue28 rfl ?_))))
 intro b73 w hI
 refine seq_c (s_store hI 0 2 [iv y71.1, iv y71.2.1] Try.sizeOf28 rfl rfl rfl rfl rfl (Nat.le_of_ble_eq_true rfl) ?_)
 intro w hI
 refine pu (iv y71.2.2) (by kernel_rfl) (seq_nil (wp_seq (rgn (by kernel_rfl) (seq_c (s_loadK hI 3 3 [iv p0.lo, iv p0.hi, iv p0.toll] Try.isAgg30 Try.sizeOf30 rfl rfl rfl rfl ?_)))))
 refine pu (.pointer (some ⟨b61, 4, none⟩)) (by kernel_rfl) (seq_c (s_load1 hI 2 (iv p1.gal) Try.isAgg3 rfl rfl rfl ?_))
 refine bindE hF (fun y76 hy77 hF => ?_)
 refine seq_c (s_callv hI 28 [.agg #[iv p0.lo, iv p0.hi, iv p0.toll], iv p1.gal] (.tuple #[iv y76.1, iv y76.2]) (by kernel_rfl) (L28 _ p0 p1.gal _ hy77) ?_)
 intro w hI
 refine pu (.tuple #[iv y76.1, iv y76.2]) (by kernel_rfl) (pu (iv y76.1) (by kernel_rfl) (pu (iv y76.2) (by kernel_rfl) (pu (iv y76.1) (by kernel_rfl) (pu (iv y76.2) (by kernel_rfl) (seq_nil (wp_seq (rgn (by kernel_rfl) (seq_c (s_loadK hI 3 3 [iv p0.lo, iv p0.hi, iv p0.toll] Try.isAgg30 Try.sizeOf30 rfl rfl rfl rfl ?_)))))))))
 refine pu (.pointer (some ⟨b61, 4, none⟩)) (by kernel_rfl) (seq_c (s_load1 hI 2 (iv p1.gal) Try.isAgg3 rfl rfl rfl ?_))
 refine bindE hF (fun y80 hy81 hF => ?_)
 refine seq_c (s_callv hI 29 [.agg #[iv p0.lo, iv p0.hi, iv p0.toll], iv p1.gal] (.tuple #[iv y80.1, iv y80.2]) (by kernel_rfl) (L29 _ p0 p1.gal _ hy81) ?_)
 intro w hI
 refine pu (.tuple #[iv y80.1, iv y80.2]) (by kernel_rfl) (pu (iv y80.1) (by kernel_rfl) (pu (iv y80.2) (by kernel_rfl) (pu (iv y80.1) (by kernel_rfl) (pu (iv y80.2) (by kernel_rfl) (seq_nil (wp_seq (rgn (by kernel_rfl) (seq_c (s_loadK hI 3 3 [iv p0.lo, iv p0.hi, iv p0.toll] Try.isAgg30 Try.sizeOf30 rfl rfl rfl rfl ?_)))))))))
 refine pu (.pointer (some ⟨b61, 0, none⟩)) (by kernel_rfl) (seq_c (s_loadK hI 2 2 [iv p1.blo, iv p1.bhi] Try.isAgg28 Try.sizeOf28 rfl rfl rfl rfl ?_))
 refine bindE hF (fun y85 hy86 hF => ?_)
 refine seq_c (s_callv hI 30 [.agg #[iv p0.lo, iv p0.hi, iv p0.toll], .agg #[iv p1.blo, iv p1.bhi]] (.tuple #[.agg #[iv y85.1, iv y85.2.1], iv y85.2.2]) (by kernel_rfl) (L30 _ p0 (⟨p1.blo, p1.bhi⟩ : Rg) _ hy86) ?_)
 intro w hI
 refine pu (.tuple #[.agg #[iv y85.1, iv y85.2.1], iv y85.2.2]) (by kernel_rfl) (pu (.agg #[iv y85.1, iv y85.2.1]) (by kernel_rfl) (pu (iv y85.2.2) (by kernel_rfl) (seq_c (s_allocI hI [iv 0, iv 0] Try.zeroValue28 rfl ?_))))
 intro b87 w hI
 refine seq_c (s_store hI 0 2 [iv y85.1, iv y85.2.1] Try.sizeOf28 rfl rfl rfl rfl rfl (Nat.le_of_ble_eq_true rfl) ?_)
 intro w hI
 refine pu (iv y85.2.2) (by kernel_rfl) (seq_nil (wp_seq (rgn (by kernel_rfl) (seq_c (s_loadK hI 4 3 [iv p0.lo, iv p0.hi, iv p0.toll] Try.isAgg30 Try.sizeOf30 rfl rfl rfl rfl ?_)))))
 refine pu (.pointer (some ⟨b61, 0, none⟩)) (by kernel_rfl) (seq_c (s_loadK hI 3 2 [iv p1.blo, iv p1.bhi] Try.isAgg28 Try.sizeOf28 rfl rfl rfl rfl ?_))
 refine bindE hF (fun y91 hy92 hF => ?_)
 refine seq_c (s_callv hI 31 [.agg #[iv p0.lo, iv p0.hi, iv p0.toll], .agg #[iv p1.blo, iv p1.bhi]] (.tuple #[.agg #[iv y91.1, iv y91.2.1], iv y91.2.2]) (by kernel_rfl) (L31 _ p0 (⟨p1.blo, p1.bhi⟩ : Rg) _ hy92) ?_)
 intro w hI
 refine pu (.tuple #[.agg #[iv y91.1, iv y91.2.1], iv y91.2.2]) (by kernel_rfl) (pu (.agg #[iv y91.1, iv y91.2.1]) (by kernel_rfl) (pu (iv y91.2.2) (by kernel_rfl) (seq_c (s_allocI hI [iv 0, iv 0] Try.zeroValue28 rfl ?_))))
 intro b93 w hI
 refine seq_c (s_store hI 0 2 [iv y91.1, iv y91.2.1] Try.sizeOf28 rfl rfl rfl rfl rfl (Nat.le_of_ble_eq_true rfl) ?_)
 intro w hI
 refine pu (iv y91.2.2) (by kernel_rfl) (seq_nil (wp_seq (rgn (by kernel_rfl) (seq_c (s_loadK hI 5 3 [iv p0.lo, iv p0.hi, iv p0.toll] Try.isAgg30 Try.sizeOf30 rfl rfl rfl rfl ?_)))))
 refine pu (.pointer (some ⟨b61, 2, none⟩)) (by kernel_rfl) (seq_c (s_loadK hI 4 2 [iv p1.flo, iv p1.fhi] Try.isAgg28 Try.sizeOf28 rfl rfl rfl rfl ?_))
 refine bindE hF (fun y97 hy98 hF => ?_)
 refine seq_c (s_callv hI 32 [.agg #[iv p0.lo, iv p0.hi, iv p0.toll], .agg #[iv p1.flo, iv p1.fhi]] (.tuple #[.agg #[iv y97.1, iv y97.2.1], iv y97.2.2]) (by kernel_rfl) (L32 _ p0 (⟨p1.flo, p1.fhi⟩ : Rg) N _ hy98) ?_)
 intro w hI
 refine pu (.tuple #[.agg #[iv y97.1, iv y97.2.1], iv y97.2.2]) (by kernel_rfl) (pu (.agg #[iv y97.1, iv y97.2.1]) (by kernel_rfl) (pu (iv y97.2.2) (by kernel_rfl) (seq_c (s_allocI hI [iv 0, iv 0] Try.zeroValue28 rfl ?_))))
 intro b99 w hI
 refine seq_c (s_store hI 0 2 [iv y97.1, iv y97.2.1] Try.sizeOf28 rfl rfl rfl rfl rfl (Nat.le_of_ble_eq_true rfl) ?_)
 intro w hI
 refine pu (iv y97.2.2) (by kernel_rfl) (seq_nil (wp_seq (rgn (by kernel_rfl) (seq_c (s_loadK hI 6 3 [iv p0.lo, iv p0.hi, iv p0.toll] Try.isAgg30 Try.sizeOf30 rfl rfl rfl rfl ?_)))))
 refine pu (.pointer (some ⟨b61, 2, none⟩)) (by kernel_rfl) (seq_c (s_loadK hI 5 2 [iv p1.flo, iv p1.fhi] Try.isAgg28 Try.sizeOf28 rfl rfl rfl rfl ?_))
 refine bindE hF (fun y103 hy104 hF => ?_)
 refine seq_c (s_callv hI 33 [.agg #[iv p0.lo, iv p0.hi, iv p0.toll], .agg #[iv p1.flo, iv p1.fhi]] (.tuple #[.agg #[iv y103.1, iv y103.2.1], iv y103.2.2]) (by kernel_rfl) (L33 _ p0 (⟨p1.flo, p1.fhi⟩ : Rg) N _ hy104) ?_)
 intro w hI
 refine pu (.tuple #[.agg #[iv y103.1, iv y103.2.1], iv y103.2.2]) (by kernel_rfl) (pu (.agg #[iv y103.1, iv y103.2.1]) (by kernel_rfl) (pu (iv y103.2.2) (by kernel_rfl) (seq_c (s_allocI hI [iv 0, iv 0] Try.zeroValue28 rfl ?_))))
 intro b105 w hI
 refine seq_c (s_store hI 0 2 [iv y103.1, iv y103.2.1] Try.sizeOf28 rfl rfl rfl rfl rfl (Nat.le_of_ble_eq_true rfl) ?_)
 intro w hI
 refine pu (iv y103.2.2) (by kernel_rfl) (seq_nil (wp_seq (rgn (by kernel_rfl) (pu (.pointer (some ⟨b61, 4, none⟩)) (by kernel_rfl) (seq_c (s_load1 hI 6 (iv p1.gal) Try.isAgg3 rfl rfl rfl ?_))))))
 refine pu (.pointer (some ⟨b61, 5, none⟩)) (by kernel_rfl) (seq_c (s_load1 hI 6 (iv p1.hly) Try.isAgg3 rfl rfl rfl ?_))
 refine bindE hF (fun y108 hy109 hF => ?_)
 refine seq_c (s_callv hI 34 [iv p1.gal, iv p1.hly] (.tuple #[iv y108.1, iv y108.2]) (by kernel_rfl) (L34 _ p1.gal p1.hly _ hy109) ?_)
 intro w hI
 refine pu (.tuple #[iv y108.1, iv y108.2]) (by kernel_rfl) (pu (iv y108.1) (by kernel_rfl) (pu (iv y108.2) (by kernel_rfl) (pu (iv y108.1) (by kernel_rfl) (pu (iv y108.2) (by kernel_rfl) (seq_nil (wp_seq (rgn (by kernel_rfl) (pu (.pointer (some ⟨b61, 4, none⟩)) (by kernel_rfl) (seq_c (s_load1 hI 6 (iv p1.gal) Try.isAgg3 rfl rfl rfl ?_))))))))))
 refine pu (.pointer (some ⟨b61, 5, none⟩)) (by kernel_rfl) (seq_c (s_load1 hI 6 (iv p1.hly) Try.isAgg3 rfl rfl rfl ?_))
 refine bindE hF (fun y112 hy113 hF => ?_)
 refine seq_c (s_callv hI 35 [iv p1.gal, iv p1.hly] (.tuple #[iv y112.1, iv y112.2]) (by kernel_rfl) (L35 _ p1.gal p1.hly _ hy113) ?_)
 intro w hI
 refine pu (.tuple #[iv y112.1, iv y112.2]) (by kernel_rfl) (pu (iv y112.1) (by kernel_rfl) (pu (iv y112.2) (by kernel_rfl) (pu (iv y112.1) (by kernel_rfl) (pu (iv y112.2) (by kernel_rfl) (seq_nil (wp_seq (rgn (by kernel_rfl) (seq_c (s_loadK hI 5 2 [iv y65.1, iv y65.2.1] Try.isAgg28 Try.sizeOf28 rfl rfl rfl rfl ?_)))))))))
 refine seq_c (s_loadK hI 4 2 [iv y71.1, iv y71.2.1] Try.isAgg28 Try.sizeOf28 rfl rfl rfl rfl ?_)
 refine ifE hF (fun h31 hF => ?_) (fun h31 hF => ?_)
 ·
  refine seq_c (s_eqlA (b := decide (y65.1 = y71.1) && decide (y65.2.1 = y71.2.1)) rfl rfl (by kernel_rfl) (fun w => eq28 _ y65.1 y65.2.1 y71.1 y71.2.1 w) (fun _ => ?_) (fun h => absurd (a := (decide (y65.1 = y71.1) && decide (y65.2.1 = y71.2.1)) = true) h31 h))
  refine pu (.bool true) (by kernel_rfl) (puo (iv y65.2.2) ⟨(by kernel_rfl), (by kernel_rfl)⟩ (puo (iv y71.2.2) ⟨(by kernel_rfl), (by kernel_rfl)⟩ (ifE hF (fun h32 hF => ?_) (fun h32 hF => ?_))))
  ·
   refine seq_on (by kernel_rfl) (s_eql rfl rfl (fun _ => ?_) (fun h => absurd (a := y65.2.2 = y71.2.2) h32 h))
   refine pu (.bool true) (by kernel_rfl) (pu (.bool true) (by kernel_rfl) (puo (iv y76.1) ⟨(by kernel_rfl), (by kernel_rfl)⟩ (puo (iv y80.1) ⟨(by kernel_rfl), (by kernel_rfl)⟩ (ifE hF (fun h33 hF => ?_) (fun h33 hF => ?_)))))
   ·
    refine seq_on (by kernel_rfl) (s_eql rfl rfl (fun _ => ?_) (fun h => absurd (a := y76.1 = y80.1) h33 h))
    refine pu (.bool true) (by kernel_rfl) (pu (.bool true) (by kernel_rfl) (puo (iv y76.2) ⟨(by kernel_rfl), (by kernel_rfl)⟩ (puo (iv y80.2) ⟨(by kernel_rfl), (by kernel_rfl)⟩ (ifE hF (fun h34 hF => ?_) (fun h34 hF => ?_)))))
    ·
     refine seq_on (by kernel_rfl) (s_eql rfl rfl (fun _ => ?_) (fun h => absurd (a := y76.2 = y80.2) h34 h))
     refine pu (.bool true) (by kernel_rfl) (pu (.bool true) (by kernel_rfl) (seq_on (by kernel_rfl) (s_loadK hI 3 2 [iv y85.1, iv y85.2.1] Try.isAgg28 Try.sizeOf28 rfl rfl rfl rfl ?_)))
     refine seq_on (by kernel_rfl) (s_loadK hI 2 2 [iv y91.1, iv y91.2.1] Try.isAgg28 Try.sizeOf28 rfl rfl rfl rfl ?_)
     refine ifE hF (fun h35 hF => ?_) (fun h35 hF => ?_)
     ·
      refine seq_on (by kernel_rfl) (s_eqlA (b := decide (y85.1 = y91.1) && decide (y85.2.1 = y91.2.1)) rfl rfl (by kernel_rfl) (fun w => eq28 _ y85.1 y85.2.1 y91.1 y91.2.1 w) (fun _ => ?_) (fun h => absurd (a := (decide (y85.1 = y91.1) && decide (y85.2.1 = y91.2.1)) = true) h35 h))
      refine pu (.bool true) (by kernel_rfl) (pu (.bool true) (by kernel_rfl) (puo (iv y85.2.2) ⟨(by kernel_rfl), (by kernel_rfl)⟩ (puo (iv y91.2.2) ⟨(by kernel_rfl), (by kernel_rfl)⟩ (ifE hF (fun h36 hF => ?_) (fun h36 hF => ?_)))))
      ·
       refine seq_on (by kernel_rfl) (s_eql rfl rfl (fun _ => ?_) (fun h => absurd (a := y85.2.2 = y91.2.2) h36 h))
       refine pu (.bool true) (by kernel_rfl) (pu (.bool true) (by kernel_rfl) (seq_on (by kernel_rfl) (s_loadK hI 1 2 [iv y97.1, iv y97.2.1] Try.isAgg28 Try.sizeOf28 rfl rfl rfl rfl ?_)))
       refine seq_on (by kernel_rfl) (s_loadK hI 0 2 [iv y103.1, iv y103.2.1] Try.isAgg28 Try.sizeOf28 rfl rfl rfl rfl ?_)
       refine ifE hF (fun h37 hF => ?_) (fun h37 hF => ?_)
       ·
        refine seq_on (by kernel_rfl) (s_eqlA (b := decide (y97.1 = y103.1) && decide (y97.2.1 = y103.2.1)) rfl rfl (by kernel_rfl) (fun w => eq28 _ y97.1 y97.2.1 y103.1 y103.2.1 w) (fun _ => ?_) (fun h => absurd (a := (decide (y97.1 = y103.1) && decide (y97.2.1 = y103.2.1)) = true) h37 h))
        refine pu (.bool true) (by kernel_rfl) (pu (.bool true) (by kernel_rfl) (puo (iv y97.2.2) ⟨(by kernel_rfl), (by kernel_rfl)⟩ (puo (iv y103.2.2) ⟨(by kernel_rfl), (by kernel_rfl)⟩ (ifE hF (fun h38 hF => ?_) (fun h38 hF => ?_)))))
        ·
         refine seq_on (by kernel_rfl) (s_eql rfl rfl (fun _ => ?_) (fun h => absurd (a := y97.2.2 = y103.2.2) h38 h))
         refine pu (.bool true) (by kernel_rfl) (pu (.bool true) (by kernel_rfl) (puo (iv y108.1) ⟨(by kernel_rfl), (by kernel_rfl)⟩ (puo (iv y112.1) ⟨(by kernel_rfl), (by kernel_rfl)⟩ (ifE hF (fun h39 hF => ?_) (fun h39 hF => ?_)))))
         ·
          refine seq_on (by kernel_rfl) (s_eql rfl rfl (fun _ => ?_) (fun h => absurd (a := y108.1 = y112.1) h39 h))
          refine pu (.bool true) (by kernel_rfl) (pu (.bool true) (by kernel_rfl) (puo (iv y108.2) ⟨(by kernel_rfl), (by kernel_rfl)⟩ (puo (iv y112.2) ⟨(by kernel_rfl), (by kernel_rfl)⟩ (ifE hF (fun h40 hF => ?_) (fun h40 hF => ?_)))))
          ·
           refine seq_on (by kernel_rfl) (s_eql rfl rfl (fun _ => ?_) (fun h => absurd (a := y108.2 = y112.2) h40 h))
           refine pu (.bool true) (by kernel_rfl) (pu (.bool true) (by kernel_rfl) (bindE hF (fun y117 hy118 hF => ?_)))
           refine seq_on (by kernel_rfl) (s_callv hI 25 [] (.bool y117) (by kernel_rfl) (L25 _ N _ hy118) ?_)
           intro w hI
           refine pu (.bool y117) (by kernel_rfl) (pu (.bool y117) (by kernel_rfl) (seq_nil (wp_ret ?_)))
           replace hF := Option.some.inj hF; subst hF
           exact ⟨.bool y117, Ret.r1 rfl rfl, ⟨rfl, hI.below⟩⟩
          ·
           refine seq_on (by kernel_rfl) (s_eql rfl rfl (fun h => absurd (a := y108.2 = y112.2) h h40) (fun _ => ?_))
           refine pu (.bool false) (by kernel_rfl) (pu (.bool false) (by kernel_rfl) (of_ (by kernel_rfl) (pu (.bool false) (by kernel_rfl) (pu (.bool false) (by kernel_rfl) (seq_nil (wp_ret ?_))))))
           replace hF := Option.some.inj hF; subst hF
           exact ⟨.bool false, Ret.r1 rfl rfl, ⟨rfl, hI.below⟩⟩
         ·
          refine seq_on (by kernel_rfl) (s_eql rfl rfl (fun h => absurd (a := y108.1 = y112.1) h h39) (fun _ => ?_))
          refine pu (.bool false) (by kernel_rfl) (pu (.bool false) (by kernel_rfl) (of_ (by kernel_rfl) (of_ (by kernel_rfl) (of_ (by kernel_rfl) (pu (.bool false) (by kernel_rfl) (pu (.bool false) (by kernel_rfl) (of_ (by kernel_rfl) (pu (.bool false) (by kernel_rfl) (pu (.bool false) (by kernel_rfl) ?_)))))))))
          refine seq_nil (wp_ret ?_)
          replace hF := Option.some.inj hF; subst hF
          exact ⟨.bool false, Ret.r1 rfl rfl, ⟨rfl, hI.below⟩⟩
        ·
         refine seq_on (by kernel_rfl) (s_eql rfl rfl (fun h => absurd (a := y97.2.2 = y103.2.2) h h38) (fun _ => ?_))
         refine pu (.bool false) (by kernel_rfl) (pu (.bool false) (by kernel_rfl) (of_ (by kernel_rfl) (of_ (by kernel_rfl) (of_ (by kernel_rfl) (pu (.bool false) (by kernel_rfl) (pu (.bool false) (by kernel_rfl) (of_ (by kernel_rfl) (of_ (by kernel_rfl) (of_ (by kernel_rfl) ?_)))))))))
         refine pu (.bool false) (by kernel_rfl) (pu (.bool false) (by kernel_rfl) (of_ (by kernel_rfl) (pu (.bool false) (by kernel_rfl) (pu (.bool false) (by kernel_rfl) (seq_nil (wp_ret ?_))))))
         replace hF := Option.some.inj hF; subst hF
         exact ⟨.bool false, Ret.r1 rfl rfl, ⟨rfl, hI.below⟩⟩
       ·
        refine seq_on (by kernel_rfl) (s_eqlA (b := decide (y97.1 = y103.1) && decide (y97.2.1 = y103.2.1)) rfl rfl (by kernel_rfl) (fun w => eq28 _ y97.1 y97.2.1 y103.1 y103.2.1 w) (fun h => absurd (a := (decide (y97.1 = y103.1) && decide (y97.2.1 = y103.2.1)) = true) h h37) (fun _ => ?_))
        refine pu (.bool false) (by kernel_rfl) (pu (.bool false) (by kernel_rfl) (of_ (by kernel_rfl) (of_ (by kernel_rfl) (of_ (by kernel_rfl) (pu (.bool false) (by kernel_rfl) (pu (.bool false) (by kernel_rfl) (of_ (by kernel_rfl) (of_ (by kernel_rfl) (of_ (by kernel_rfl) ?_)))))))))
        refine pu (.bool false) (by kernel_rfl) (pu (.bool false) (by kernel_rfl) (of_ (by kernel_rfl) (of_ (by kernel_rfl) (of_ (by kernel_rfl) (pu (.bool false) (by kernel_rfl) (pu (.bool false) (by kernel_rfl) (of_ (by kernel_rfl) (pu (.bool false) (by kernel_rfl) (pu (.bool false) (by kernel_rfl) ?_)))))))))
        refine seq_nil (wp_ret ?_)
        replace hF := Option.some.inj hF; subst hF
        exact ⟨.bool false, Ret.r1 rfl rfl, ⟨rfl, hI.below⟩⟩
      ·
       refine seq_on (by kernel_rfl) (s_eql rfl rfl (fun h => absurd (a := y85.2.2 = y91.2.2) h h36) (fun _ => ?_))
       refine pu (.bool false) (by kernel_rfl) (pu (.bool false) (by kernel_rfl) (of_ (by kernel_rfl) (of_ (by kernel_rfl) (of_ (by kernel_rfl) (pu (.bool false) (by kernel_rfl) (pu (.bool false) (by kernel_rfl) (of_ (by kernel_rfl) (of_ (by kernel_rfl) (of_ (by kernel_rfl) ?_)))))))))
       refine pu (.bool false) (by kernel_rfl) (pu (.bool false) (by kernel_rfl) (of_ (by kernel_rfl) (of_ (by kernel_rfl) (of_ (by kernel_rfl) (pu (.bool false) (by kernel_rfl) (pu (.bool false) (by kernel_rfl) (of_ (by kernel_rfl) (of_ (by kernel_rfl) (of_ (by kernel_rfl) ?_)))))))))
       refine pu (.bool false) (by kernel_rfl) (pu (.bool false) (by kernel_rfl) (of_ (by kernel_rfl) (pu (.bool false) (by kernel_rfl) (pu (.bool false) (by kernel_rfl) (seq_nil (wp_ret ?_))))))
       replace hF := Option.some.inj hF; subst hF
       exact ⟨.bool false, Ret.r1 rfl rfl, ⟨rfl, hI.below⟩⟩
     ·
      refine seq_on (by kernel_rfl) (s_eqlA (b := decide (y85.1 = y91.1) && decide (y85.2.1 = y91.2.1)) rfl rfl (by kernel_rfl) (fun w => eq28 _ y85.1 y85.2.1 y91.1 y91.2.1 w) (fun h => absurd (a := (decide (y85.1 = y91.1) && decide (y85.2.1 = y91.2.1)) = true) h h35) (fun _ => ?_))
      refine pu (.bool false) (by kernel_rfl) (pu (.bool false) (by kernel_rfl) (of_ (by kernel_rfl) (of_ (by kernel_rfl) (of_ (by kernel_rfl) (pu (.bool false) (by kernel_rfl) (pu (.bool false) (by kernel_rfl) (of_ (by kernel_rfl) (of_ (by kernel_rfl) (of_ (by kernel_rfl) ?_)))))))))
      refine pu (.bool false) (by kernel_rfl) (pu (.bool false) (by kernel_rfl) (of_ (by kernel_rfl) (of_ (by kernel_rfl) (of_ (by kernel_rfl) (pu (.bool false) (by kernel_rfl) (pu (.bool false) (by kernel_rfl) (of_ (by kernel_rfl) (of_ (by kernel_rfl) (of_ (by kernel_rfl) ?_)))))))))
      refine pu (.bool false) (by kernel_rfl) (pu (.bool false) (by kernel_rfl) (of_ (by kernel_rfl) (of_ (by kernel_rfl) (of_ (by kernel_rfl) (pu (.bool false) (by kernel_rfl) (pu (.bool false) (by kernel_rfl) (of_ (by kernel_rfl) (pu (.bool false) (by kernel_rfl) (pu (.bool false) (by kernel_rfl) ?_)))))))))
      refine seq_nil (wp_ret ?_)
      replace hF := Option.some.inj hF; subst hF
      exact ⟨.bool false, Ret.r1 rfl rfl, ⟨rfl, hI.below⟩⟩
    ·
     refine seq_on (by kernel_rfl) (s_eql rfl rfl (fun h => absurd (a := y76.2 = y80.2) h h34) (fun _ => ?_))
     refine pu (.bool false) (by kernel_rfl) (pu (.bool false) (by kernel_rfl) (of_ (by kernel_rfl) (of_ (by kernel_rfl) (of_ (by kernel_rfl) (pu (.bool false) (by kernel_rfl) (pu (.bool false) (by kernel_rfl) (of_ (by kernel_rfl) (of_ (by kernel_rfl) (of_ (by kernel_rfl) ?_)))))))))
     refine pu (.bool false) (by kernel_rfl) (pu (.bool false) (by kernel_rfl) (of_ (by kernel_rfl) (of_ (by kernel_rfl) (of_ (by kernel_rfl) (pu (.bool false) (by kernel_rfl) (pu (.bool false) (by kernel_rfl) (of_ (by kernel_rfl) (of_ (by kernel_rfl) (of_ (by kernel_rfl) ?_)))))))))
     refine pu (.bool false) (by kernel_rfl) (pu (.bool false) (by kernel_rfl) (of_ (by kernel_rfl) (of_ (by kernel_rfl) (of_ (by kernel_rfl) (pu (.bool false) (by kernel_rfl) (pu (.bool false) (by kernel_rfl) (of_ (by kernel_rfl) (of_ (by kernel_rfl) (of_ (by kernel_rfl) ?_)))))))))
     refine pu (.bool false) (by kernel_rfl) (pu (.bool false) (by kernel_rfl) (of_ (by kernel_rfl) (pu (.bool false) (by kernel_rfl) (pu (.bool false) (by kernel_rfl) (seq_nil (wp_ret ?_))))))
     replace hF := Option.some.inj hF; subst hF
     exact ⟨.bool false, Ret.r1 rfl rfl, ⟨rfl, hI.below⟩⟩
   ·
    refine seq_on (by kernel_rfl) (s_eql rfl rfl (fun h => absurd (a := y76.1 = y80.1) h h33) (fun _ => ?_))
    refine pu (.bool false) (by kernel_rfl) (pu (.bool false) (by kernel_rfl) (of_ (by kernel_rfl) (of_ (by kernel_rfl) (of_ (by kernel_rfl) (pu (.bool false) (by kernel_rfl) (pu (.bool false) (by kernel_rfl) (of_ (by kernel_rfl) (of_ (by kernel_rfl) (of_ (by kernel_rfl) ?_)))))))))
    refine pu (.bool false) (by kernel_rfl) (pu (.bool false) (by kernel_rfl) (of_ (by kernel_rfl) (of_ (by kernel_rfl) (of_ (by kernel_rfl) (pu (.bool false) (by kernel_rfl) (pu (.bool false) (by kernel_rfl) (of_ (by kernel_rfl) (of_ (by kernel_rfl) (of_ (by kernel_rfl) ?_)))))))))
    refine pu (.bool false) (by kernel_rfl) (pu (.bool false) (by kernel_rfl) (of_ (by kernel_rfl) (of_ (by kernel_rfl) (of_ (by kernel_rfl) (pu (.bool false) (by kernel_rfl) (pu (.bool false) (by kernel_rfl) (of_ (by kernel_rfl) (of_ (by kernel_rfl) (of_ (by kernel_rfl) ?_)))))))))
    refine pu (.bool false) (by kernel_rfl) (pu (.bool false) (by kernel_rfl) (of_ (by kernel_rfl) (of_ (by kernel_rfl) (of_ (by kernel_rfl) (pu (.bool false) (by kernel_rfl) (pu (.bool false) (by kernel_rfl) (of_ (by kernel_rfl) (pu (.bool false) (by kernel_rfl) (pu (.bool false) (by kernel_rfl) ?_)))))))))
    refine seq_nil (wp_ret ?_)
    replace hF := Option.some.inj hF; subst hF
    exact ⟨.bool false, Ret.r1 rfl rfl, ⟨rfl, hI.below⟩⟩
  ·
   refine seq_on (by kernel_rfl) (s_eql rfl rfl (fun h => absurd (a := y65.2.2 = y71.2.2) h h32) (fun _ => ?_))
   refine pu (.bool false) (by kernel_rfl) (pu (.bool false) (by kernel_rfl) (of_ (by kernel_rfl) (of_ (by kernel_rfl) (of_ (by kernel_rfl) (pu (.bool false) (by kernel_rfl) (pu (.bool false) (by kernel_rfl) (of_ (by kernel_rfl) (of_ (by kernel_rfl) (of_ (by kernel_rfl) ?_)))))))))
   refine pu (.bool false) (by kernel_rfl) (pu (.bool false) (by kernel_rfl) (of_ (by kernel_rfl) (of_ (by kernel_rfl) (of_ (by kernel_rfl) (pu (.bool false) (by kernel_rfl) (pu (.bool false) (by kernel_rfl) (of_ (by kernel_rfl) (of_ (by kernel_rfl) (of_ (by kernel_rfl) ?_)))))))))
   refine pu (.bool false) (by kernel_rfl) (pu (.bool false) (by kernel_rfl) (of_ (by kernel_rfl) (of_ (by kernel_rfl) (of_ (by kernel_rfl) (pu (.bool false) (by kernel_rfl) (pu (.bool false) (by kernel_rfl) (of_ (by kernel_rfl) (of_ (by kernel_rfl) (of_ (by kernel_rfl) ?_)))))))))
   refine pu (.bool false) (by kernel_rfl) (pu (.bool false) (by kernel_rfl) (of_ (by kernel_rfl) (of_ (by kernel_rfl) (of_ (by kernel_rfl) (pu (.bool false) (by kernel_rfl) (pu (.bool false) (by kernel_rfl) (of_ (by kernel_rfl) (of_ (by kernel_rfl) (of_ (by kernel_rfl) ?_)))))))))
   refine pu (.bool false) (by kernel_rfl) (pu (.bool false) (by kernel_rfl) (of_ (by kernel_rfl) (pu (.bool false) (by kernel_rfl) (pu (.bool false) (by kernel_rfl) (seq_nil (wp_ret ?_))))))
   replace hF := Option.some.inj hF; subst hF
   exact ⟨.bool false, Ret.r1 rfl rfl, ⟨rfl, hI.below⟩⟩
 ·
  refine seq_c (s_eqlA (b := decide (y65.1 = y71.1) && decide (y65.2.1 = y71.2.1)) rfl rfl (by kernel_rfl) (fun w => eq28 _ y65.1 y65.2.1 y71.1 y71.2.1 w) (fun h => absurd (a := (decide (y65.1 = y71.1) && decide (y65.2.1 = y71.2.1)) = true) h h31) (fun _ => ?_))
  refine pu (.bool false) (by kernel_rfl) (of_ (by kernel_rfl) (of_ (by kernel_rfl) (of_ (by kernel_rfl) (pu (.bool false) (by kernel_rfl) (pu (.bool false) (by kernel_rfl) (of_ (by kernel_rfl) (of_ (by kernel_rfl) (of_ (by kernel_rfl) (pu (.bool false) (by kernel_rfl) ?_)))))))))
  refine pu (.bool false) (by kernel_rfl) (of_ (by kernel_rfl) (of_ (by kernel_rfl) (of_ (by kernel_rfl) (pu (.bool false) (by kernel_rfl) (pu (.bool false) (by kernel_rfl) (of_ (by kernel_rfl) (of_ (by kernel_rfl) (of_ (by kernel_rfl) (pu (.bool false) (by kernel_rfl) ?_)))))))))
  refine pu (.bool false) (by kernel_rfl) (of_ (by kernel_rfl) (of_ (by kernel_rfl) (of_ (by kernel_rfl) (pu (.bool false) (by kernel_rfl) (pu (.bool false) (by kernel_rfl) (of_ (by kernel_rfl) (of_ (by kernel_rfl) (of_ (by kernel_rfl) (pu (.bool false) (by kernel_rfl) ?_)))))))))
  refine pu (.bool false) (by kernel_rfl) (of_ (by kernel_rfl) (of_ (by kernel_rfl) (of_ (by kernel_rfl) (pu (.bool false) (by kernel_rfl) (pu (.bool false) (by kernel_rfl) (of_ (by kernel_rfl) (of_ (by kernel_rfl) (of_ (by kernel_rfl) (pu (.bool false) (by kernel_rfl) ?_)))))))))
  refine pu (.bool false) (by kernel_rfl) (of_ (by kernel_rfl) (of_ (by kernel_rfl) (of_ (by kernel_rfl) (pu (.bool false) (by kernel_rfl) (pu (.bool false) (by kernel_rfl) (of_ (by kernel_rfl) (pu (.bool false) (by kernel_rfl) (pu (.bool false) (by kernel_rfl) (seq_nil ?_)))))))))
  refine wp_ret ?_
  replace hF := Option.some.inj hF; subst hF
  exact ⟨.bool false, Ret.r1 rfl rfl, ⟨rfl, hI.below⟩⟩


end Go.K
