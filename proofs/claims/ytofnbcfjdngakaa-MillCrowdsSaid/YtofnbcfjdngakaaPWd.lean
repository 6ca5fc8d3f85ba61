/- That the functions do what the pure definitions say: walks, as tools/lift.py writes them. No condition. -/
import Derived.Test.YtofnbcfjdngakaaPWc
namespace Go.K
open Go.Proofs Go.RowKit
set_option linter.unusedVariables false
set_option linter.unusedSimpArgs false
set_option maxRecDepth 100000
attribute [local irreducible] Seq Step CallV AnyE opX
theorem L89 (w0 : World) (p0_0 : Int) (Ap0_1 : Option Addr) (cp0_1 : Nat) (lp0_1 : List Cm) (Ap1 : Option Addr) (cp1 : Nat) (lp1 : List Int) (hCp0_1 : Cells w0 Ap0_1 (flat eCm lp0_1)) (hMp0_1 : lp0_1.length ≤ 9223372036854775807) (hKp0_1 : lp0_1.length ≤ cp0_1) (hCp1 : Cells w0 Ap1 (flat eInt lp1)) (hMp1 : lp1.length ≤ 9223372036854775807) (hKp1 : lp1.length ≤ cp1) (N : Nat) (r : (List Int × Int)) (hF : F89 N p0_0 lp0_1 lp1 = some r) : Does Try.prog 89 [.agg #[.int .i64 p0_0, .slice Ap0_1 lp0_1.length cp0_1], .slice Ap1 lp1.length cp1] w0 fun v w => ∃ (z0 : Option Nat) (z1 : Nat) (z2 : List Value), v = .tuple #[slv z0 r.1.length z1, .int .i64 r.2] ∧ Inv [] w0 w [(z0, blk z2 3)] ∧ Row 1 z0 r.1.length z1 z2 (flat eInt r.1) := by
 refine calls_of (n := 18) Try.func89 rfl Try.ntmps89 rfl ?_
 have hI := Inv.start w0
 unfold F89 at hF
 refine wp_seq (rgn (by kernel_rfl) (seq_c (s_boxI hI [iv p0_0, .slice Ap0_1 lp0_1.length cp0_1] rfl ?_)))
 intro b114740 w hI
 refine pu (.slice none 0 0) (by kernel_rfl) (pu (iv 0) (by kernel_rfl) (seq_nil (wp_seq (rgn (by kernel_rfl) (seq_c (s_loadK hI 0 2 [iv p0_0, .slice Ap0_1 lp0_1.length cp0_1] Try.isAgg24 Try.sizeOf24 rfl rfl rfl rfl ?_))))))
 refine bindE hF (fun y114748 hy114749 hF => ?_)
 refine seq_c (s_call 104 [.agg #[iv p0_0, .slice Ap0_1 lp0_1.length cp0_1]] (by kernel_rfl) (L104 _ p0_0 Ap0_1 cp0_1 lp0_1 (hCp0_1.inv0 hI) hMp0_1 hKp0_1 N _ hy114749) ?_)
 rintro v w ⟨g114750, c114751, cl114752, rfl, hN, r114753⟩
 have hI := hI.join hN; clear hN
 refine seq_c (s_allocI hI [iv 0, .slice none 0 0, .slice none 0 0] Try.zeroValue93 rfl ?_)
 intro b114754 w hI
 refine seq_c (s_store hI 0 3 [iv y114748.1, .slice Ap0_1 lp0_1.length cp0_1, slv g114750 y114748.2.length c114751] Try.sizeOf93 rfl rfl rfl rfl rfl (Nat.le_of_ble_eq_true rfl) ?_)
 intro w hI
 refine seq_nil (wp_cutO (fun ρ w => ∃ (g172115 : Option Nat) (c172116 : Nat) (cl172117 : List Value) (crowded_172114 : List Int) (served_172119 : Bool), Agree ρ [(7, slv g172115 crowded_172114.length c172116), (8, .bool served_172119)] ∧ Inv [] w0 w [(g172115, blk cl172117 3)] ∧ (Row 1 g172115 (crowded_172114.length) c172116 cl172117 (flat eInt crowded_172114)) ∧ F89j1 crowded_172114 served_172119 = some r) ?_ ?_)
 ·
  refine rgn (by kernel_rfl) (pu (.slice Ap1 lp1.length cp1) (by kernel_rfl) (seq_c (s_callI 107 [.pointer (some ⟨b114754, 0, none⟩), .slice Ap1 lp1.length cp1] (by kernel_rfl) ?_)))
  refine calls_of (n := 34) Try.func107 rfl Try.ntmps107 rfl ?_
  refine wp_seq (rgn (by kernel_rfl) (pu (.slice none 0 0) (by kernel_rfl) (pu (.bool false) (by kernel_rfl) (seq_nil (wp_cutO (fun ρ w => ∃ (g200798 : Option Nat) (c200799 : Nat) (cl200800 : List Value) (u200797 : List Int), Agree ρ [] ∧ Inv [] w0 w [(some b114740, blk [iv p0_0, .slice Ap0_1 lp0_1.length cp0_1] 24), (some b114754, blk [iv y114748.1, .slice Ap0_1 lp0_1.length cp0_1, slv g200798 u200797.length c200799] 93), (g200798, blk cl200800 3)] ∧ (Row 1 g200798 (u200797.length) c200799 cl200800 (flat eInt u200797)) ∧ F89j2 u200797 = some r) ?_ ?_)))))
  ·
   refine wp_seq (rgn (by kernel_rfl) (pu (.slice Ap1 lp1.length cp1) (by kernel_rfl) (pu (iv ((lp1.length : Nat) : Int)) (by kernel_rfl) (pu (iv 0) (by kernel_rfl) (seq_nil (wp_block ?_))))))
   refine wp_loop (fun m ρ w => ∃ (g219471 : Option Nat) (c219472 : Nat) (cl219473 : List Value) (r_219470 : List Int) (v219475 : Int) (mm : Nat), Agree ρ [(0, .pointer (some ⟨b114754, 0, none⟩)), (1, .slice Ap1 lp1.length cp1), (10, .slice Ap1 lp1.length cp1), (11, iv (lp1.length : Int)), (12, iv v219475)] ∧ Inv [] w0 w [(some b114754, blk [iv y114748.1, .slice Ap0_1 lp0_1.length cp0_1, slv g219471 r_219470.length c219472] 93), (g219471, blk cl219473 3), (some b114740, blk [iv p0_0, .slice Ap0_1 lp0_1.length cp0_1] 24)] ∧ (Row 1 g219471 (r_219470.length) c219472 cl219473 (flat eInt r_219470)) ∧ F89l3 lp0_1 lp1 N y114748 mm r_219470 v219475 = some r ∧ mm = m) (m := N) ⟨g114750, c114751, cl114752, y114748.2, 0, N, ⟨rfl, rfl, rfl, rfl, rfl, trivial⟩, hI.pickL [0, 1, 2] (by decide) rfl, (r114753.to rfl rfl), hF, rfl⟩ ?_
   rintro m ρ w ⟨g219471, c219472, cl219473, r_219470, v219475, mm, hag, hI, r219474, hF, hm⟩
   subst hm; obtain ⟨ρ, rfl⟩ := hag.form; clear hag
   obtain _ | m3 := mm
   ·cases (show (none : Option (List Int × Int)) = some r from hF)
   replace hF : F89b3 lp0_1 lp1 N y114748 (F89l3 lp0_1 lp1 N y114748 m3) r_219470 v219475 = some r := hF; unfold F89b3 at hF
   refine wp_seq (rgn (by kernel_rfl) (ifE hF (fun h101517 hF => ?_) (fun h101517 hF => ?_)))
   ·
    refine seq_c (s_lss rfl rfl (fun _ => ?_) (fun h => absurd (a := v219475 < (lp1.length : Int)) h101517 h))
    refine seq_nil (wp_seq (wp_condT rfl (wp_skip (wp_cutO (fun ρ w => ∃ (g224476 : Option Nat) (c224477 : Nat) (cl224478 : List Value) (r_224475 : List Int), Agree ρ [(0, .pointer (some ⟨b114754, 0, none⟩)), (1, .slice Ap1 lp1.length cp1), (10, .slice Ap1 lp1.length cp1), (11, iv (lp1.length : Int)), (12, iv v219475)] ∧ Inv [] w0 w [(some b114754, blk [iv y114748.1, .slice Ap0_1 lp0_1.length cp0_1, slv g224476 r_224475.length c224477] 93), (g224476, blk cl224478 3), (some b114740, blk [iv p0_0, .slice Ap0_1 lp0_1.length cp0_1] 24)] ∧ (Row 1 g224476 (r_224475.length) c224477 cl224478 (flat eInt r_224475)) ∧ F89j4 (F89l3 lp0_1 lp1 N y114748 m3) v219475 r_224475 = some r) ?_ ?_))))
    ·
     refine wp_block ?_
     refine wp_seq (rgn (by kernel_rfl) (pu (iv v219475) (by kernel_rfl) (gdE hF (fun h103736 hF => ?_))))
     refine bindE hF (fun x224480 hx224481 hF => ?_)
     obtain ⟨b224482, o224483, hA224484, hb224485, he224486⟩ := hCp1.at_ eInt_len (by decide) hx224481
     refine seq_c (s_indexA (v219475).toNat Try.underlying49 Try.sizeOf3 rfl hA224484 rfl (Int.toNat_of_nonneg h103736).symm (lt_n hx224481 rfl) ?_)
     refine seq_c (s_loadB1 hI (iv x224480) Try.isAgg3 rfl hb224485 (by simp) (he224486 0 _ rfl) ?_)
     refine pu (iv v219475) (by kernel_rfl) (pu (iv x224480) (by kernel_rfl) (seq_nil (wp_seq (rgn (by kernel_rfl) (pu (iv x224480) (by kernel_rfl) (pu (iv 0) (by kernel_rfl) (seq_nil (wp_block ?_))))))))
     refine wp_loop (fun m ρ w => ∃ (g227814 : Option Nat) (c227815 : Nat) (cl227816 : List Value) (r_227813 : List Int) (v227818 : Int) (mm : Nat), Agree ρ [(0, .pointer (some ⟨b114754, 0, none⟩)), (1, .slice Ap1 lp1.length cp1), (6, iv v219475), (10, .slice Ap1 lp1.length cp1), (11, iv (lp1.length : Int)), (12, iv v219475), (17, iv x224480), (18, iv v227818)] ∧ Inv [] w0 w [(some b114754, blk [iv y114748.1, .slice Ap0_1 lp0_1.length cp0_1, slv g227814 r_227813.length c227815] 93), (g227814, blk cl227816 3), (some b114740, blk [iv p0_0, .slice Ap0_1 lp0_1.length cp0_1] 24)] ∧ (Row 1 g227814 (r_227813.length) c227815 cl227816 (flat eInt r_227813)) ∧ F89l5 lp0_1 lp1 N (F89l3 lp0_1 lp1 N y114748 m3) y114748 v219475 x224480 mm r_227813 v227818 = some r ∧ mm = m) (m := N) ⟨g219471, c219472, cl219473, r_219470, 0, N, ⟨rfl, rfl, rfl, rfl, rfl, rfl, rfl, rfl, trivial⟩, hI.pickL [0, 1, 2] (by decide) rfl, (r219474.to rfl rfl), hF, rfl⟩ ?_
     rintro m ρ w ⟨g227814, c227815, cl227816, r_227813, v227818, mm, hag, hI, r227817, hF, hm⟩
     subst hm; obtain ⟨ρ, rfl⟩ := hag.form; clear hag
     obtain _ | m5 := mm
     ·cases (show (none : Option (List Int × Int)) = some r from hF)
     replace hF : F89b5 lp0_1 lp1 N (F89l3 lp0_1 lp1 N y114748 m3) y114748 v219475 x224480 (F89l5 lp0_1 lp1 N (F89l3 lp0_1 lp1 N y114748 m3) y114748 v219475 x224480 m5) r_227813 v227818 = some r := hF; unfold F89b5 at hF
     refine wp_seq (rgn (by kernel_rfl) (ifE hF (fun h105215 hF => ?_) (fun h105215 hF => ?_)))
     ·
      refine seq_c (s_lss rfl rfl (fun _ => ?_) (fun h => absurd (a := v227818 < x224480) h105215 h))
      refine seq_nil (wp_seq (wp_condT rfl (wp_skip (wp_seq (wp_block ?_)))))
      refine wp_seq (rgn (by kernel_rfl) (pu (.pointer (some ⟨b114754, 0, none⟩)) (by kernel_rfl) (pu (iv v219475) (by kernel_rfl) (seq_c (s_callI 105 [.pointer (some ⟨b114754, 0, none⟩), iv v219475] (by kernel_rfl) ?_)))))
      refine calls_of (n := 15) Try.func105 rfl Try.ntmps105 rfl ?_
      refine wp_seq (rgn (by kernel_rfl) (seq_c (s_boxI hI [.pointer (some ⟨b114754, 0, none⟩)] rfl ?_)))
      intro b228677 w hI
      refine pu (iv 0) (by kernel_rfl) (pu (.bool false) (by kernel_rfl) (seq_nil (wp_seq (rgn (by kernel_rfl) (seq_c (s_allocI hI [iv 0] Try.zeroValue3 rfl ?_))))))
      intro b228678 w hI
      refine seq_c (s_store hI 0 1 [iv 0] Try.sizeOf3 rfl rfl rfl rfl rfl (Nat.le_of_ble_eq_true rfl) ?_)
      intro w hI
      refine seq_nil (wp_seq (rgn (by kernel_rfl) (seq_c (s_allocI hI [.nilFunc] Try.zeroValue109 rfl ?_))))
      intro b228679 w hI
      refine seq_nil (wp_seq (rgn (by kernel_rfl) (pu (.func (.func 115) #[] #[.pointer (some ⟨b228677, 0, none⟩), .pointer (some ⟨b228678, 0, none⟩), .pointer (some ⟨b228679, 0, none⟩)]) (by kernel_rfl) (seq_c (s_store hI 0 1 [.func (.func 115) #[] #[.pointer (some ⟨b228677, 0, none⟩), .pointer (some ⟨b228678, 0, none⟩), .pointer (some ⟨b228679, 0, none⟩)]] Try.sizeOf109 rfl rfl rfl rfl rfl (Nat.le_of_ble_eq_true rfl) ?_)))))
      intro w hI
      refine seq_nil (wp_cutO (fun ρ w => ∃ (g228692 : Option Nat) (c228693 : Nat) (cl228694 : List Value) (asked_228689 : Int) (found_228690 : Bool) (found_228691 : List Int), Agree ρ [(6, .pointer (some ⟨b228678, 0, none⟩)), (8, .bool found_228690)] ∧ Inv [] w0 w [(some b228678, blk [iv asked_228689] 3), (some b114740, blk [iv p0_0, .slice Ap0_1 lp0_1.length cp0_1] 24), (some b114754, blk [iv y114748.1, .slice Ap0_1 lp0_1.length cp0_1, slv g228692 found_228691.length c228693] 93), (g228692, blk cl228694 3)] ∧ (Row 1 g228692 (found_228691.length) c228693 cl228694 (flat eInt found_228691)) ∧ F89j6 lp0_1 lp1 N (F89l5 lp0_1 lp1 N (F89l3 lp0_1 lp1 N y114748 m3) y114748 v219475 x224480 m5) v227818 asked_228689 found_228690 found_228691 = some r) ?_ ?_)
      ·
       refine rgn (by kernel_rfl) (seq_c (s_load1 hI 0 (.func (.func 115) #[] #[.pointer (some ⟨b228677, 0, none⟩), .pointer (some ⟨b228678, 0, none⟩), .pointer (some ⟨b228679, 0, none⟩)]) Try.isAgg109 rfl rfl rfl ?_))
       refine pu (iv v219475) (by kernel_rfl) (ifE hF (fun h105952 hF => ?_) (fun h105952 hF => ?_))
       ·
        obtain ⟨b229470, rfl⟩ := r227817.some_ (len_ge rfl h105952)
        refine bindE hF (fun y229471 hy229472 hF => ?_)
        refine seq_c (s_call 115 [iv v219475, .pointer (some ⟨b228677, 0, none⟩), .pointer (some ⟨b228678, 0, none⟩), .pointer (some ⟨b228679, 0, none⟩)] (by kernel_rfl) (L115 N _ b228677 b228678 b228679 b114754 b229470 v219475 0 y114748.1 Ap0_1 cp0_1 lp0_1 r_227813.length c227815 cl227816 r_227813 (hI.lend [2, 1, 0, 3, 4] (by decide) rfl rfl) (hI.apartL0 [2, 1, 0, 3, 4] rfl rfl hCp0_1) hMp0_1 hKp0_1 r227817 _ hy229472) ?_)
        rintro v w ⟨cl229474, hv, hN, r229475⟩
        subst hv
        have hI := hI.backsL [2, 1, 0, 3, 4] [5] (by decide) rfl rfl rfl hN; clear hN
        have hq : r_227813.length = y229471.2.2.length := r229475.n_eq eInt_len (by decide)
        rw [hq] at hI r229475; clear hq
        refine pu (.bool y229471.1) (by kernel_rfl) (seq_nil ?_)
        exact .inl ⟨rfl, ⟨some b229470, c227815, cl229474, y229471.2.1, y229471.1, y229471.2.2, ⟨rfl, rfl, trivial⟩, hI.pickL [1, 5, 3, 4] (by decide) rfl, (r229475.to rfl rfl), hF⟩⟩
       ·
        refine bindE hF (fun y229476 hy229477 hF => ?_)
        refine seq_c (s_call 115 [iv v219475, .pointer (some ⟨b228677, 0, none⟩), .pointer (some ⟨b228678, 0, none⟩), .pointer (some ⟨b228679, 0, none⟩)] (by kernel_rfl) (L115n N _ b228677 b228678 b228679 b114754 v219475 0 y114748.1 Ap0_1 cp0_1 lp0_1 g227814 r_227813.length c227815 (hI.lend [2, 1, 0, 3] (by decide) rfl rfl) (hI.apartL0 [2, 1, 0, 3] rfl rfl hCp0_1) hMp0_1 hKp0_1 _ hy229477) ?_)
        rintro v w ⟨hv, hN⟩
        subst hv
        have hI := hI.backsL [2, 1, 0, 3] [4, 5] (by decide) rfl rfl rfl hN; clear hN
        refine pu (.bool y229476.1) (by kernel_rfl) (seq_nil ?_)
        exact .inl ⟨rfl, ⟨g227814, c227815, cl227816, y229476.2, y229476.1, r_227813, ⟨rfl, rfl, trivial⟩, hI.pickL [1, 5, 3, 4] (by decide) rfl, (r227817.to rfl rfl), hF⟩⟩
      ·intro ρ w hJ
       obtain ⟨g228692, c228693, cl228694, asked_228689, found_228690, found_228691, hag, hI, r228695, hF⟩ := hJ
       obtain ⟨ρ, rfl⟩ := hag.form; clear hag
       unfold F89j6 at hF
       refine wp_seq (rgn (by kernel_rfl) (seq_c (s_load1 hI 0 (iv asked_228689) Try.isAgg3 rfl rfl rfl ?_)))
       refine pu (.bool found_228690) (by kernel_rfl) (pu (iv asked_228689) (by kernel_rfl) (pu (.bool found_228690) (by kernel_rfl) (seq_nil (wp_ret (⟨.tuple #[iv asked_228689, .bool found_228690], Ret.r2 rfl rfl rfl, ?_⟩)))))
       refine pu (.tuple #[iv asked_228689, .bool found_228690]) (by kernel_rfl) (pu (iv asked_228689) (by kernel_rfl) (pu (.bool found_228690) (by kernel_rfl) (pu (iv asked_228689) (by kernel_rfl) (pu (.bool found_228690) (by kernel_rfl) (seq_nil (wp_seq ?_))))))
       have hG := hF; rcases Bool.eq_false_or_eq_true found_228690 with rfl | rfl
       ·
        have hF := hG; clear hG
        refine ifE hF (fun _ hF => ?_) (fun h => absurd rfl h)
        refine rgn (by kernel_rfl) (pu (.bool true) (by kernel_rfl) (pu (.bool false) (by kernel_rfl) (seq_nil (wp_condF rfl (wp_skip (rgn (by kernel_rfl) (ckE hF (fun h105587 hF => ?_))))))))
        refine seq_c (s_add rfl rfl h105587 ?_)
        refine pu (iv (v227818 + 1)) (by kernel_rfl) (seq_nil ?_)
        exact ⟨rfl, m5, Nat.lt_succ_self _, ⟨g228692, c228693, cl228694, found_228691, v227818 + 1, m5, ⟨rfl, rfl, rfl, rfl, rfl, rfl, rfl, rfl, trivial⟩, hI.pickL [2, 3, 1] (by decide) rfl, (r228695.to rfl rfl), hF, rfl⟩⟩
       ·
        have hF := hG; clear hG
        refine ifE hF (fun h => absurd h (by decide)) (fun _ hF => ?_)
        refine rgn (by kernel_rfl) (pu (.bool false) (by kernel_rfl) (pu (.bool true) (by kernel_rfl) (seq_nil (wp_condT rfl (wp_seq (rgn (by kernel_rfl) (pu (.pointer (some ⟨b114754, 0, none⟩)) (by kernel_rfl) (pu (iv asked_228689) (by kernel_rfl) (pu (.slice Ap1 lp1.length cp1) (by kernel_rfl) ?_)))))))))
        refine seq_c (s_callI 117 [.pointer (some ⟨b114754, 0, none⟩), iv asked_228689, .slice Ap1 lp1.length cp1] (by kernel_rfl) ?_)
        refine calls_of (n := 42) Try.func117 rfl Try.ntmps117 rfl ?_
        refine wp_seq (rgn (by kernel_rfl) (pu (.slice none 0 0) (by kernel_rfl) (seq_nil (wp_seq (rgn (by kernel_rfl) (pu (.slice none 0 0) (by kernel_rfl) (seq_nil (wp_cutO (fun ρ w => ∃ (g229273 : Option Nat) (c229274 : Nat) (cl229275 : List Value) (coming_229272 : List Int), Agree ρ [(7, slv g229273 coming_229272.length c229274)] ∧ Inv [] w0 w [(g229273, blk cl229275 3), (some b114740, blk [iv p0_0, .slice Ap0_1 lp0_1.length cp0_1] 24), (some b114754, blk [iv y114748.1, .slice Ap0_1 lp0_1.length cp0_1, slv g228692 found_228691.length c228693] 93), (g228692, blk cl228694 3)] ∧ (Row 1 g229273 (coming_229272.length) c229274 cl229275 (flat eInt coming_229272)) ∧ F89j7 coming_229272 = some r) ?_ ?_))))))))
        ·
         refine wp_seq (rgn (by kernel_rfl) (pu (.pointer (some ⟨b114754, 0, none⟩)) (by kernel_rfl) (pu (.pointer (some ⟨b114754, 0, none⟩)) (by kernel_rfl) (pu (.pointer (some ⟨b114754, 0, none⟩)) (by kernel_rfl) (pu (.pointer (some ⟨b114754, 1, none⟩)) (by kernel_rfl) (seq_c (s_load1 hI 2 (.slice Ap0_1 lp0_1.length cp0_1) Try.isAgg22 rfl rfl rfl ?_)))))))
         refine pu (iv ((lp0_1.length : Nat) : Int)) (by kernel_rfl) (pu (iv 0) (by kernel_rfl) (seq_nil (wp_block ?_)))
         have hI := hI.nilRow 3
         refine wp_loop (fun m ρ w => ∃ (g229406 : Option Nat) (c229407 : Nat) (cl229408 : List Value) (coming_229405 : List Int) (v229410 : Int) (mm : Nat), Agree ρ [(1, iv asked_228689), (2, .slice Ap1 lp1.length cp1), (7, slv g229406 coming_229405.length c229407), (14, .slice Ap0_1 lp0_1.length cp0_1), (15, iv (lp0_1.length : Int)), (16, iv v229410)] ∧ Inv [] w0 w [(g229406, blk cl229408 3), (some b114740, blk [iv p0_0, .slice Ap0_1 lp0_1.length cp0_1] 24), (some b114754, blk [iv y114748.1, .slice Ap0_1 lp0_1.length cp0_1, slv g228692 found_228691.length c228693] 93), (g228692, blk cl228694 3)] ∧ (Row 1 g229406 (coming_229405.length) c229407 cl229408 (flat eInt coming_229405)) ∧ F89l8 lp0_1 lp1 asked_228689 mm coming_229405 v229410 = some r ∧ mm = m) (m := N) ⟨none, 0, [], [], 0, N, ⟨rfl, rfl, rfl, rfl, rfl, rfl, trivial⟩, hI.pickL [0, 2, 3, 4] (by decide) rfl, (Row.nil_ 1), hF, rfl⟩ ?_
         rintro m ρ w ⟨g229406, c229407, cl229408, coming_229405, v229410, mm, hag, hI, r229409, hF, hm⟩
         subst hm; obtain ⟨ρ, rfl⟩ := hag.form; clear hag
         obtain _ | m8 := mm
         ·cases (show (none : Option (List Int × Int)) = some r from hF)
         replace hF : F89b8 lp0_1 lp1 asked_228689 (F89l8 lp0_1 lp1 asked_228689 m8) coming_229405 v229410 = some r := hF; unfold F89b8 at hF
         refine wp_seq (rgn (by kernel_rfl) (ifE hF (fun h105922 hF => ?_) (fun h105922 hF => ?_)))
         ·
          refine seq_c (s_lss rfl rfl (fun _ => ?_) (fun h => absurd (a := v229410 < (lp0_1.length : Int)) h105922 h))
          refine seq_nil (wp_seq (wp_condT rfl (wp_skip (wp_cutO (fun ρ w => ∃ (g229439 : Option Nat) (c229440 : Nat) (cl229441 : List Value) (coming_229438 : List Int), Agree ρ [(1, iv asked_228689), (2, .slice Ap1 lp1.length cp1), (7, slv g229439 coming_229438.length c229440), (14, .slice Ap0_1 lp0_1.length cp0_1), (15, iv (lp0_1.length : Int)), (16, iv v229410)] ∧ Inv [] w0 w [(g229439, blk cl229441 3), (some b114740, blk [iv p0_0, .slice Ap0_1 lp0_1.length cp0_1] 24), (some b114754, blk [iv y114748.1, .slice Ap0_1 lp0_1.length cp0_1, slv g228692 found_228691.length c228693] 93), (g228692, blk cl228694 3)] ∧ (Row 1 g229439 (coming_229438.length) c229440 cl229441 (flat eInt coming_229438)) ∧ F89j9 (F89l8 lp0_1 lp1 asked_228689 m8) v229410 coming_229438 = some r) ?_ ?_))))
          ·
           refine wp_block ?_
           refine wp_seq (rgn (by kernel_rfl) (pu (iv v229410) (by kernel_rfl) (gdE hF (fun h105938 hF => ?_))))
           refine bindE hF (fun x229443 hx229444 hF => ?_)
           obtain ⟨b229445, o229446, hA229447, hb229448, he229449⟩ := hCp0_1.at_ eCm_len (by decide) hx229444
           refine seq_c (s_indexA (v229410).toNat Try.underlying22 Try.sizeOf26 rfl hA229447 rfl (Int.toNat_of_nonneg h105938).symm (lt_n hx229444 rfl) ?_)
           refine seq_c (s_loadBK hI [iv x229443.fam, iv x229443.hrs, iv x229443.wants] Try.isAgg26 Try.sizeOf26 rfl rfl hb229448 (by simp) he229449 ?_)
           refine seq_c (s_allocI hI [iv 0, iv 0, iv 0] Try.zeroValue26 rfl ?_)
           intro b229450 w hI
           refine pu (iv v229410) (by kernel_rfl) (seq_c (s_store hI 0 3 [iv x229443.fam, iv x229443.hrs, iv x229443.wants] Try.sizeOf26 rfl rfl rfl rfl rfl (Nat.le_of_ble_eq_true rfl) ?_))
           intro w hI
           refine seq_nil (wp_cutO (fun ρ w => Agree ρ [(1, iv asked_228689), (2, .slice Ap1 lp1.length cp1), (7, slv g229406 coming_229405.length c229407), (9, .pointer (some ⟨b229450, 0, none⟩)), (14, .slice Ap0_1 lp0_1.length cp0_1), (15, iv (lp0_1.length : Int)), (16, iv v229410), (32, .bool false)] ∧ Inv [] w0 w [(g229406, blk cl229408 3), (some b229450, blk [iv x229443.fam, iv x229443.hrs, iv x229443.wants] 26), (some b114740, blk [iv p0_0, .slice Ap0_1 lp0_1.length cp0_1] 24), (some b114754, blk [iv y114748.1, .slice Ap0_1 lp0_1.length cp0_1, slv g228692 found_228691.length c228693] 93), (g228692, blk cl228694 3)] ∧ F89j10 (F89l8 lp0_1 lp1 asked_228689 m8) coming_229405 v229410 = some r) ?_ ?_)
           ·
            refine rgn (by kernel_rfl) (pu (.slice Ap1 lp1.length cp1) (by kernel_rfl) (pu (iv v229410) (by kernel_rfl) (bindE hF (fun x229458 hx229459 hF => ?_))))
            obtain ⟨b229460, o229461, hA229462, hb229463, he229464⟩ := hCp1.at_ eInt_len (by decide) hx229459
            refine seq_c (s_indexA (v229410).toNat Try.underlying49 Try.sizeOf3 rfl hA229462 rfl (Int.toNat_of_nonneg h105938).symm (lt_n hx229459 rfl) ?_)
            refine seq_c (s_loadB1 hI (iv x229458) Try.isAgg3 rfl hb229463 (by simp) (he229464 0 _ rfl) ?_)
            refine ifE hF (fun h105945 hF => ?_) (fun h105945 hF => ?_)
            ·
             refine seq_c (s_gtr rfl rfl (fun _ => ?_) (fun h => absurd (a := 0 < x229458) h105945 h))
             refine pu (.bool true) (by kernel_rfl) (puo (.pointer (some ⟨b229450, 1, none⟩)) ⟨(by kernel_rfl), (by kernel_rfl)⟩ (seq_on (by kernel_rfl) (s_load1 hI 0 (iv x229443.hrs) Try.isAgg3 rfl rfl rfl ?_)))
             refine puo (iv asked_228689) ⟨(by kernel_rfl), (by kernel_rfl)⟩ (gdE hF (fun h105946 hF => ?_))
             refine gdE hF (fun h105947 hF => ?_)
             refine ckE hF (fun h105948 hF => ?_)
             refine ckE hF (fun h105949 hF => ?_)
             refine seq_on (by kernel_rfl) (s_andNot rfl rfl h105946 h105947 h105948 h105949 ?_)
             refine ifE hF (fun h105950 hF => ?_) (fun h105950 hF => ?_)
             ·
              refine seq_on (by kernel_rfl) (s_eql rfl rfl (fun _ => ?_) (fun h => absurd (a := (andNotI x229443.hrs asked_228689) = 0) h105950 h))
              refine pu (.bool true) (by kernel_rfl) (seq_nil (.inr ?_))
              refine wp_condT rfl (rgn (by kernel_rfl) (pu (slv g229406 coming_229405.length c229407) (by kernel_rfl) (pu (.pointer (some ⟨b229450, 0, none⟩)) (by kernel_rfl) (seq_c (s_load1 hI 0 (iv x229443.fam) Try.isAgg3 rfl rfl rfl ?_)))))
              refine seq_c (s_new hI [iv x229443.fam] 3 (fun b => slv (some b) 1 1) (by kernel_rfl) ?_)
              intro b229465 w hI
              refine gdE hF (fun h105951 hF => ?_)
              refine seq_c (s_appN hI Try.underlying49 (z := iv 0) (k := 1) (bytes := 8) (by kernel_rfl) rfl rfl 2 rfl rfl r229409 [iv x229443.fam] rfl rfl (hI.cells 0 (off := 0) rfl (fun j u h => by rw [Nat.zero_add]; exact h)) (by simp [Value.oneCell']) (by omega) (by omega) (n2 := (coming_229405 ++ [x229443.fam]).length) (app_len rfl rfl) ?_)
              intro g229466 c229467 cl229468 w hI r229469
              have r229469 : Row 1 g229466 ((coming_229405 ++ [x229443.fam]).length) c229467 cl229468 (flat eInt (coming_229405 ++ [x229443.fam])) := r229469.snoc _ rfl
              refine pu (slv g229466 ((coming_229405 ++ [x229443.fam]).length) c229467) (by kernel_rfl) (seq_nil ?_)
              exact .inl ⟨rfl, ⟨g229466, c229467, cl229468, coming_229405 ++ [x229443.fam], ⟨rfl, rfl, rfl, rfl, rfl, rfl, trivial⟩, hI.pickL [2, 3, 4, 5] (by decide) rfl, (r229469.to rfl rfl), hF⟩⟩
             ·
              refine seq_on (by kernel_rfl) (s_eql rfl rfl (fun h => absurd (a := (andNotI x229443.hrs asked_228689) = 0) h h105950) (fun _ => ?_))
              refine pu (.bool false) (by kernel_rfl) (seq_nil ?_)
              exact .inl ⟨rfl, ⟨⟨rfl, rfl, rfl, rfl, rfl, rfl, rfl, rfl, trivial⟩, hI.pickL [1, 0, 2, 3, 4] (by decide) rfl, hF⟩⟩
            ·
             refine seq_c (s_gtr rfl rfl (fun h => absurd (a := 0 < x229458) h h105945) (fun _ => ?_))
             refine pu (.bool false) (by kernel_rfl) (of_ (by kernel_rfl) (of_ (by kernel_rfl) (of_ (by kernel_rfl) (of_ (by kernel_rfl) (of_ (by kernel_rfl) (pu (.bool false) (by kernel_rfl) (seq_nil ?_)))))))
             exact .inl ⟨rfl, ⟨⟨rfl, rfl, rfl, rfl, rfl, rfl, rfl, rfl, trivial⟩, hI.pickL [1, 0, 2, 3, 4] (by decide) rfl, hF⟩⟩
           ·intro ρ w hJ
            obtain ⟨hag, hI, hF⟩ := hJ
            obtain ⟨ρ, rfl⟩ := hag.form; clear hag
            unfold F89j10 at hF
            refine wp_condF rfl (wp_skip ?_)
            exact .inl ⟨rfl, ⟨g229406, c229407, cl229408, coming_229405, ⟨rfl, rfl, rfl, rfl, rfl, rfl, trivial⟩, hI.pickL [0, 2, 3, 4] (by decide) rfl, (r229409.to rfl rfl), hF⟩⟩
          ·intro ρ w hJ
           obtain ⟨g229439, c229440, cl229441, coming_229438, hag, hI, r229442, hF⟩ := hJ
           obtain ⟨ρ, rfl⟩ := hag.form; clear hag
           unfold F89j9 at hF
           refine rgn (by kernel_rfl) (ckE hF (fun h105937 hF => ?_))
           refine seq_c (s_add rfl rfl h105937 ?_)
           refine pu (iv (v229410 + 1)) (by kernel_rfl) (seq_nil ?_)
           exact ⟨rfl, m8, Nat.lt_succ_self _, ⟨g229439, c229440, cl229441, coming_229438, v229410 + 1, m8, ⟨rfl, rfl, rfl, rfl, rfl, rfl, trivial⟩, hI.pickL [0, 1, 2, 3] (by decide) rfl, (r229442.to rfl rfl), hF, rfl⟩⟩
         ·
          refine seq_c (s_lss rfl rfl (fun h => absurd (a := v229410 < (lp0_1.length : Int)) h h105922) (fun _ => ?_))
          refine seq_nil (wp_seq (wp_condF rfl (wp_exit ?_)))
          exact .inl ⟨rfl, ⟨g229406, c229407, cl229408, coming_229405, ⟨rfl, trivial⟩, hI.pickL [0, 1, 2, 3] (by decide) rfl, (r229409.to rfl rfl), hF⟩⟩
        ·intro ρ w hJ
         obtain ⟨g229273, c229274, cl229275, coming_229272, hag, hI, r229276, hF⟩ := hJ
         obtain ⟨ρ, rfl⟩ := hag.form; clear hag
         unfold F89j7 at hF
         refine wp_seq (rgn (by kernel_rfl) (pu (slv g229273 coming_229272.length c229274) (by kernel_rfl) (gdE hF (fun h105861 hF => ?_))))
         refine seq_c (s_call 97 [slv g229273 coming_229272.length c229274] (by kernel_rfl) (sort_c hI 0 rfl r229276 h105861) ?_)
         rintro v w ⟨rfl, cl229279, hI, r229280⟩
         refine seq_nil (wp_seq (rgn (by kernel_rfl) (pu (slv g229273 coming_229272.length c229274) (by kernel_rfl) (pu (slv g229273 coming_229272.length c229274) (by kernel_rfl) (seq_nil (wp_ret (⟨slv g229273 coming_229272.length c229274, Ret.r1 rfl rfl, ?_⟩)))))))
         refine pu (slv g229273 coming_229272.length c229274) (by kernel_rfl) (pu (.bool false) (by kernel_rfl) (seq_nil (wp_ret (⟨.tuple #[slv g229273 coming_229272.length c229274, .bool false], Ret.r2 rfl rfl rfl, ?_⟩))))
         refine pu (.tuple #[slv g229273 coming_229272.length c229274, .bool false]) (by kernel_rfl) (pu (slv g229273 coming_229272.length c229274) (by kernel_rfl) (pu (.bool false) (by kernel_rfl) (pu (slv g229273 coming_229272.length c229274) (by kernel_rfl) (pu (.bool false) (by kernel_rfl) (seq_nil ?_)))))
         exact .inl ⟨rfl, ⟨g229273, c229274, cl229279, sortI coming_229272, false, ⟨(slv_n (r229280.n_eq eInt_len (by decide))), rfl, trivial⟩, hI.pickL [0] (by decide) rfl, (r229280.to rfl (r229280.n_eq eInt_len (by decide))), hF⟩⟩
     ·
      refine seq_c (s_lss rfl rfl (fun h => absurd (a := v227818 < x224480) h h105215) (fun _ => ?_))
      refine seq_nil (wp_seq (wp_condF rfl (wp_exit ?_)))
      exact .inl ⟨rfl, ⟨g227814, c227815, cl227816, r_227813, ⟨rfl, rfl, rfl, rfl, rfl, trivial⟩, hI.pickL [0, 1, 2] (by decide) rfl, (r227817.to rfl rfl), hF⟩⟩
    ·intro ρ w hJ
     obtain ⟨g224476, c224477, cl224478, r_224475, hag, hI, r224479, hF⟩ := hJ
     obtain ⟨ρ, rfl⟩ := hag.form; clear hag
     unfold F89j4 at hF
     refine rgn (by kernel_rfl) (ckE hF (fun h103735 hF => ?_))
     refine seq_c (s_add rfl rfl h103735 ?_)
     refine pu (iv (v219475 + 1)) (by kernel_rfl) (seq_nil ?_)
     exact ⟨rfl, m3, Nat.lt_succ_self _, ⟨g224476, c224477, cl224478, r_224475, v219475 + 1, m3, ⟨rfl, rfl, rfl, rfl, rfl, trivial⟩, hI.pickL [0, 1, 2] (by decide) rfl, (r224479.to rfl rfl), hF, rfl⟩⟩
   ·
    refine seq_c (s_lss rfl rfl (fun h => absurd (a := v219475 < (lp1.length : Int)) h h101517) (fun _ => ?_))
    refine seq_nil (wp_seq (wp_condF rfl (wp_exit ?_)))
    exact .inl ⟨rfl, ⟨g219471, c219472, cl219473, r_219470, trivial, hI.pickL [2, 0, 1] (by decide) rfl, (r219474.to rfl rfl), hF⟩⟩
  ·intro ρ w hJ
   obtain ⟨g200798, c200799, cl200800, u200797, hag, hI, r200801, hF⟩ := hJ
   obtain ⟨ρ, rfl⟩ := hag.form; clear hag
   unfold F89j2 at hF
   refine wp_seq (rgn (by kernel_rfl) (pu (.slice none 0 0) (by kernel_rfl) (pu (.bool true) (by kernel_rfl) (seq_nil (wp_ret (⟨.tuple #[.slice none 0 0, .bool true], Ret.r2 rfl rfl rfl, ?_⟩))))))
   refine pu (.tuple #[.slice none 0 0, .bool true]) (by kernel_rfl) (pu (.slice none 0 0) (by kernel_rfl) (pu (.bool true) (by kernel_rfl) (pu (.slice none 0 0) (by kernel_rfl) (pu (.bool true) (by kernel_rfl) (seq_nil ?_)))))
   have hI := hI.nilRow 3
   exact .inl ⟨rfl, ⟨none, 0, [], [], true, ⟨rfl, rfl, trivial⟩, hI.pickL [0] (by decide) rfl, (Row.nil_ 1), hF⟩⟩
 ·intro ρ w hJ
  obtain ⟨g172115, c172116, cl172117, crowded_172114, served_172119, hag, hI, r172118, hF⟩ := hJ
  obtain ⟨ρ, rfl⟩ := hag.form; clear hag
  unfold F89j1 at hF
  refine wp_seq (wp_seq ?_)
  have hG := hF; rcases Bool.eq_false_or_eq_true served_172119 with rfl | rfl
  ·
   have hF := hG; clear hG
   refine ifE hF (fun _ hF => ?_) (fun h => absurd rfl h)
   refine rgn (by kernel_rfl) (pu (.bool true) (by kernel_rfl) (seq_nil (wp_condT rfl (wp_seq (rgn (by kernel_rfl) (pu (.slice none 0 0) (by kernel_rfl) (pu (iv 55) (by kernel_rfl) (seq_nil (wp_ret ?_)))))))))
   have hI := hI.nilRow 3
   replace hF := Option.some.inj hF; subst hF
   exact ⟨.tuple #[.slice none 0 0, iv 55], Ret.r2 rfl rfl rfl, ⟨none, 0, [], rfl, hI.pickL [0] (by decide) rfl, Row.nil_ 1⟩⟩
  ·
   have hF := hG; clear hG
   refine ifE hF (fun h => absurd h (by decide)) (fun _ hF => ?_)
   refine rgn (by kernel_rfl) (pu (.bool false) (by kernel_rfl) (seq_nil (wp_condF rfl (wp_skip (wp_seq (rgn (by kernel_rfl) (pu (slv g172115 crowded_172114.length c172116) (by kernel_rfl) (pu (slv g172115 crowded_172114.length c172116) (by kernel_rfl) (pu (iv 0) (by kernel_rfl) ?_)))))))))
   refine seq_nil (wp_ret ?_)
   replace hF := Option.some.inj hF; subst hF
   exact ⟨.tuple #[slv g172115 crowded_172114.length c172116, iv 0], Ret.r2 rfl rfl rfl, ⟨g172115, c172116, cl172117, rfl, hI.pickL [0] (by decide) rfl, r172118.to rfl rfl⟩⟩


theorem L46 (w0 : World) (p0_0 : Int) (Ap0_1 : Option Addr) (cp0_1 : Nat) (lp0_1 : List Cm) (Ap1 : Option Addr) (cp1 : Nat) (lp1 : List Int) (hCp0_1 : Cells w0 Ap0_1 (flat eCm lp0_1)) (hMp0_1 : lp0_1.length ≤ 9223372036854775807) (hKp0_1 : lp0_1.length ≤ cp0_1) (hCp1 : Cells w0 Ap1 (flat eInt lp1)) (hMp1 : lp1.length ≤ 9223372036854775807) (hKp1 : lp1.length ≤ cp1) (N : Nat) (r : (List Int × Int)) (hF : F46 N p0_0 lp0_1 lp1 = some r) : Does Try.prog 46 [.agg #[.int .i64 p0_0, .slice Ap0_1 lp0_1.length cp0_1], .slice Ap1 lp1.length cp1] w0 fun v w => ∃ (z0 : Option Nat) (z1 : Nat) (z2 : List Value), v = .tuple #[slv z0 r.1.length z1, .int .i64 r.2] ∧ Inv [] w0 w [(z0, blk z2 3)] ∧ Row 1 z0 r.1.length z1 z2 (flat eInt r.1) := by
 refine calls_of (n := 18) Try.func46 rfl Try.ntmps46 rfl ?_
 have hI := Inv.start w0
 unfold F46 at hF
 refine wp_seq (rgn (by kernel_rfl) (seq_c (s_boxI hI [iv p0_0, .slice Ap0_1 lp0_1.length cp0_1] rfl ?_)))
 intro b22 w hI
 refine pu (.slice none 0 0) (by kernel_rfl) (pu (iv 0) (by kernel_rfl) (seq_nil (wp_seq (wp_seq (rgn (by kernel_rfl) (seq_c (s_loadK hI 0 2 [iv p0_0, .slice Ap0_1 lp0_1.length cp0_1] Try.isAgg24 Try.sizeOf24 rfl rfl rfl rfl ?_)))))))
 refine pu (.slice Ap1 lp1.length cp1) (by kernel_rfl) (bindE hF (fun y29 hy30 hF => ?_))
 refine seq_c (s_callv hI 86 [.agg #[iv p0_0, .slice Ap0_1 lp0_1.length cp0_1], .slice Ap1 lp1.length cp1] (iv y29) (by kernel_rfl) (L86 _ p0_0 Ap0_1 cp0_1 lp0_1 Ap1 cp1 lp1 (hCp0_1.inv0 hI) hMp0_1 hKp0_1 (hCp1.inv0 hI) hMp1 hKp1 N _ hy30) ?_)
 intro w hI
 refine pu (iv y29) (by kernel_rfl) (seq_nil (wp_seq (rgn (by kernel_rfl) (pu (iv y29) (by kernel_rfl) (ifE hF (fun h8 hF => ?_) (fun h8 hF => ?_))))))
 ·
  refine seq_c (s_neq rfl rfl (fun h => absurd (a := y29 = 0) h8 h) (fun _ => ?_))
  refine seq_nil (wp_condF rfl (wp_skip (wp_seq (rgn (by kernel_rfl) (seq_c (s_loadK hI 0 2 [iv p0_0, .slice Ap0_1 lp0_1.length cp0_1] Try.isAgg24 Try.sizeOf24 rfl rfl rfl rfl ?_))))))
  refine pu (.slice Ap1 lp1.length cp1) (by kernel_rfl) (bindE hF (fun y37 hy38 hF => ?_))
  refine seq_c (s_call 89 [.agg #[iv p0_0, .slice Ap0_1 lp0_1.length cp0_1], .slice Ap1 lp1.length cp1] (by kernel_rfl) (L89 _ p0_0 Ap0_1 cp0_1 lp0_1 Ap1 cp1 lp1 (hCp0_1.inv0 hI) hMp0_1 hKp0_1 (hCp1.inv0 hI) hMp1 hKp1 N _ hy38) ?_)
  rintro v w ⟨g39, c40, cl41, rfl, hN, r42⟩
  have hI := hI.join hN; clear hN
  refine pu (slv g39 y37.1.length c40) (by kernel_rfl) (pu (iv y37.2) (by kernel_rfl) (pu (slv g39 y37.1.length c40) (by kernel_rfl) (pu (iv y37.2) (by kernel_rfl) (seq_nil (wp_ret ?_)))))
  replace hF := Option.some.inj hF; subst hF
  exact ⟨.tuple #[slv g39 y37.1.length c40, iv y37.2], Ret.r2 rfl rfl rfl, ⟨g39, c40, cl41, rfl, hI.pickL [0] (by decide) rfl, r42.to rfl rfl⟩⟩
 ·
  refine seq_c (s_neq rfl rfl (fun _ => ?_) (fun h => absurd (a := y29 = 0) h h8))
  refine seq_nil (wp_condT rfl (wp_seq (rgn (by kernel_rfl) (pu (iv y29) (by kernel_rfl) (pu (.slice none 0 0) (by kernel_rfl) (pu (iv y29) (by kernel_rfl) (seq_nil (wp_ret ?_))))))))
  have hI := hI.nilRow 3
  replace hF := Option.some.inj hF; subst hF
  exact ⟨.tuple #[.slice none 0 0, iv y29], Ret.r2 rfl rfl rfl, ⟨none, 0, [], rfl, hI.pickL [0] (by decide) rfl, Row.nil_ 1⟩⟩


theorem L47 (w0 : World) (p0_0 : Int) (Ap0_1 : Option Addr) (cp0_1 : Nat) (lp0_1 : List Cm) (hCp0_1 : Cells w0 Ap0_1 (flat eCm lp0_1)) (hMp0_1 : lp0_1.length ≤ 9223372036854775807) (hKp0_1 : lp0_1.length ≤ cp0_1) (N : Nat) (r : (List Int × Int)) (hF : F47 N p0_0 lp0_1 = some r) : Does Try.prog 47 [.agg #[.int .i64 p0_0, .slice Ap0_1 lp0_1.length cp0_1]] w0 fun v w => ∃ (z0 : Option Nat) (z1 : Nat) (z2 : List Value), v = .tuple #[slv z0 r.1.length z1, .int .i64 r.2] ∧ Inv [] w0 w [(z0, blk z2 3)] ∧ Row 1 z0 r.1.length z1 z2 (flat eInt r.1) := by
 refine calls_of (n := 32) Try.func47 rfl Try.ntmps47 rfl ?_
 have hI := Inv.start w0
 unfold F47 at hF
 refine wp_seq (rgn (by kernel_rfl) (seq_c (s_boxI hI [iv p0_0, .slice Ap0_1 lp0_1.length cp0_1] rfl ?_)))
 intro b207 w hI
 refine pu (.slice none 0 0) (by kernel_rfl) (pu (iv 0) (by kernel_rfl) (seq_nil (wp_seq (wp_seq (rgn (by kernel_rfl) (seq_c (s_loadK hI 0 2 [iv p0_0, .slice Ap0_1 lp0_1.length cp0_1] Try.isAgg24 Try.sizeOf24 rfl rfl rfl rfl ?_)))))))
 refine bindE hF (fun y214 hy215 hF => ?_)
 refine seq_c (s_callv hI 23 [.agg #[iv p0_0, .slice Ap0_1 lp0_1.length cp0_1]] (iv y214) (by kernel_rfl) (L23 _ p0_0 Ap0_1 cp0_1 lp0_1 (hCp0_1.inv0 hI) hMp0_1 hKp0_1 N _ hy215) ?_)
 intro w hI
 refine pu (iv y214) (by kernel_rfl) (seq_nil (wp_seq (rgn (by kernel_rfl) (pu (iv y214) (by kernel_rfl) (ifE hF (fun h44 hF => ?_) (fun h44 hF => ?_))))))
 ·
  refine seq_c (s_neq rfl rfl (fun h => absurd (a := y214 = 0) h44 h) (fun _ => ?_))
  refine seq_nil (wp_condF rfl (wp_skip (wp_seq (rgn (by kernel_rfl) (pu (.slice none 0 0) (by kernel_rfl) (seq_nil (wp_cutO (fun ρ w => ∃ (g307 : Option Nat) (c308 : Nat) (cl309 : List Value) (demands_306 : List Int), Agree ρ [(1, .pointer (some ⟨b207, 0, none⟩)), (5, slv g307 demands_306.length c308)] ∧ Inv [] w0 w [(some b207, blk [iv p0_0, .slice Ap0_1 lp0_1.length cp0_1] 24), (g307, blk cl309 3)] ∧ (Row 1 g307 (demands_306.length) c308 cl309 (flat eInt demands_306)) ∧ F47j1 p0_0 lp0_1 N demands_306 = some r) ?_ ?_)))))))
  ·
   refine wp_seq (rgn (by kernel_rfl) (pu (.pointer (some ⟨b207, 1, none⟩)) (by kernel_rfl) (seq_c (s_load1 hI 0 (.slice Ap0_1 lp0_1.length cp0_1) Try.isAgg22 rfl rfl rfl ?_))))
   refine pu (iv ((lp0_1.length : Nat) : Int)) (by kernel_rfl) (pu (iv 0) (by kernel_rfl) (seq_nil (wp_block ?_)))
   have hI := hI.nilRow 3
   refine wp_loop (fun m ρ w => ∃ (g382 : Option Nat) (c383 : Nat) (cl384 : List Value) (demands_381 : List Int) (v386 : Int) (mm : Nat), Agree ρ [(1, .pointer (some ⟨b207, 0, none⟩)), (5, slv g382 demands_381.length c383), (14, .slice Ap0_1 lp0_1.length cp0_1), (15, iv (lp0_1.length : Int)), (16, iv v386)] ∧ Inv [] w0 w [(some b207, blk [iv p0_0, .slice Ap0_1 lp0_1.length cp0_1] 24), (g382, blk cl384 3)] ∧ (Row 1 g382 (demands_381.length) c383 cl384 (flat eInt demands_381)) ∧ F47l2 p0_0 lp0_1 N mm demands_381 v386 = some r ∧ mm = m) (m := N) ⟨none, 0, [], [], 0, N, ⟨rfl, rfl, rfl, rfl, rfl, trivial⟩, hI.pickL [1, 0] (by decide) rfl, (Row.nil_ 1), hF, rfl⟩ ?_
   rintro m ρ w ⟨g382, c383, cl384, demands_381, v386, mm, hag, hI, r385, hF, hm⟩
   subst hm; obtain ⟨ρ, rfl⟩ := hag.form; clear hag
   obtain _ | m2 := mm
   ·cases (show (none : Option (List Int × Int)) = some r from hF)
   replace hF : F47b2 p0_0 lp0_1 N (F47l2 p0_0 lp0_1 N m2) demands_381 v386 = some r := hF; unfold F47b2 at hF
   refine wp_seq (rgn (by kernel_rfl) (ifE hF (fun h75 hF => ?_) (fun h75 hF => ?_)))
   ·
    refine seq_c (s_lss rfl rfl (fun _ => ?_) (fun h => absurd (a := v386 < (lp0_1.length : Int)) h75 h))
    refine seq_nil (wp_seq (wp_condT rfl (wp_skip (wp_seq (wp_block ?_)))))
    refine wp_seq (rgn (by kernel_rfl) (gdE hF (fun h78 hF => ?_)))
    refine bindE hF (fun x400 hx401 hF => ?_)
    obtain ⟨b402, o403, hA404, hb405, he406⟩ := hCp0_1.at_ eCm_len (by decide) hx401
    refine seq_c (s_indexA (v386).toNat Try.underlying22 Try.sizeOf26 rfl hA404 rfl (Int.toNat_of_nonneg h78).symm (lt_n hx401 rfl) ?_)
    refine seq_c (s_loadBK hI [iv x400.fam, iv x400.hrs, iv x400.wants] Try.isAgg26 Try.sizeOf26 rfl rfl hb405 (by simp) he406 ?_)
    refine seq_c (s_allocI hI [iv 0, iv 0, iv 0] Try.zeroValue26 rfl ?_)
    intro b407 w hI
    refine seq_c (s_store hI 0 3 [iv x400.fam, iv x400.hrs, iv x400.wants] Try.sizeOf26 rfl rfl rfl rfl rfl (Nat.le_of_ble_eq_true rfl) ?_)
    intro w hI
    refine seq_nil (rgn (by kernel_rfl) (pu (slv g382 demands_381.length c383) (by kernel_rfl) (pu (.pointer (some ⟨b407, 2, none⟩)) (by kernel_rfl) (seq_c (s_load1 hI 0 (iv x400.wants) Try.isAgg3 rfl rfl rfl ?_)))))
    refine pu (iv (if x400.wants < 1 then x400.wants else 1)) (by kernel_rfl) (seq_c (s_new hI [iv (if x400.wants < 1 then x400.wants else 1)] 3 (fun b => slv (some b) 1 1) (by kernel_rfl) ?_))
    intro b408 w hI
    refine gdE hF (fun h79 hF => ?_)
    refine seq_c (s_appN hI Try.underlying49 (z := iv 0) (k := 1) (bytes := 8) (by kernel_rfl) rfl rfl 3 rfl rfl r385 [iv (if x400.wants < 1 then x400.wants else 1)] rfl rfl (hI.cells 0 (off := 0) rfl (fun j u h => by rw [Nat.zero_add]; exact h)) (by simp [Value.oneCell']) (by omega) (by omega) (n2 := (demands_381 ++ [if x400.wants < 1 then x400.wants else 1]).length) (app_len rfl rfl) ?_)
    intro g409 c410 cl411 w hI r412
    have r412 : Row 1 g409 ((demands_381 ++ [if x400.wants < 1 then x400.wants else 1]).length) c410 cl411 (flat eInt (demands_381 ++ [if x400.wants < 1 then x400.wants else 1])) := r412.snoc _ rfl
    refine pu (slv g409 ((demands_381 ++ [if x400.wants < 1 then x400.wants else 1]).length) c410) (by kernel_rfl) (seq_nil (rgn (by kernel_rfl) (ckE hF (fun h80 hF => ?_))))
    refine seq_c (s_add rfl rfl h80 ?_)
    refine pu (iv (v386 + 1)) (by kernel_rfl) (seq_nil ?_)
    exact ⟨rfl, m2, Nat.lt_succ_self _, ⟨g409, c410, cl411, demands_381 ++ [if x400.wants < 1 then x400.wants else 1], v386 + 1, m2, ⟨rfl, rfl, rfl, rfl, rfl, trivial⟩, hI.pickL [2, 3] (by decide) rfl, (r412.to rfl rfl), hF, rfl⟩⟩
   ·
    refine seq_c (s_lss rfl rfl (fun h => absurd (a := v386 < (lp0_1.length : Int)) h h75) (fun _ => ?_))
    refine seq_nil (wp_seq (wp_condF rfl (wp_exit ?_)))
    exact .inl ⟨rfl, ⟨g382, c383, cl384, demands_381, ⟨rfl, rfl, trivial⟩, hI.pickL [0, 1] (by decide) rfl, (r385.to rfl rfl), hF⟩⟩
  ·intro ρ w hJ
   obtain ⟨g307, c308, cl309, demands_306, hag, hI, r310, hF⟩ := hJ
   obtain ⟨ρ, rfl⟩ := hag.form; clear hag
   unfold F47j1 at hF
   refine wp_seq (rgn (by kernel_rfl) (seq_c (s_loadK hI 0 2 [iv p0_0, .slice Ap0_1 lp0_1.length cp0_1] Try.isAgg24 Try.sizeOf24 rfl rfl rfl rfl ?_)))
   refine pu (slv g307 demands_306.length c308) (by kernel_rfl) (bindE hF (fun y317 hy318 hF => ?_))
   refine seq_c (s_call 89 [.agg #[iv p0_0, .slice Ap0_1 lp0_1.length cp0_1], slv g307 demands_306.length c308] (by kernel_rfl) (L89 _ p0_0 Ap0_1 cp0_1 lp0_1 (g307.map fun b => ⟨b, 0, none⟩) c308 demands_306 (hCp0_1.inv0 hI) hMp0_1 hKp0_1 (hI.rowCells 1 rfl r310) (len_le rfl r310.big) (len_le rfl r310.cap) N _ hy318) ?_)
   rintro v w ⟨g319, c320, cl321, rfl, hN, r322⟩
   have hI := hI.join hN; clear hN
   refine pu (slv g319 y317.1.length c320) (by kernel_rfl) (pu (iv y317.2) (by kernel_rfl) (pu (slv g319 y317.1.length c320) (by kernel_rfl) (pu (iv y317.2) (by kernel_rfl) (seq_nil (wp_ret ?_)))))
   replace hF := Option.some.inj hF; subst hF
   exact ⟨.tuple #[slv g319 y317.1.length c320, iv y317.2], Ret.r2 rfl rfl rfl, ⟨g319, c320, cl321, rfl, hI.pickL [0] (by decide) rfl, r322.to rfl rfl⟩⟩
 ·
  refine seq_c (s_neq rfl rfl (fun _ => ?_) (fun h => absurd (a := y214 = 0) h h44))
  refine seq_nil (wp_condT rfl (wp_seq (rgn (by kernel_rfl) (pu (iv y214) (by kernel_rfl) (pu (.slice none 0 0) (by kernel_rfl) (pu (iv y214) (by kernel_rfl) (seq_nil (wp_ret ?_))))))))
  have hI := hI.nilRow 3
  replace hF := Option.some.inj hF; subst hF
  exact ⟨.tuple #[.slice none 0 0, iv y214], Ret.r2 rfl rfl rfl, ⟨none, 0, [], rfl, hI.pickL [0] (by decide) rfl, Row.nil_ 1⟩⟩


theorem L108 (w0 : World) (p0 : Int) (N : Nat) (r : Int) (hF : F108 N p0 = some r) : Does Try.prog 108 [.int .i64 p0] w0 fun v w => v = .int .i64 r ∧ Below w0.heap.size w0 w := by
 refine calls_of (n := 15) Try.func108 rfl Try.ntmps108 rfl ?_
 have hI := Inv.start w0
 unfold F108 at hF
 refine wp_seq (rgn (by kernel_rfl) (pu (iv 0) (by kernel_rfl) (seq_nil (wp_seq (rgn (by kernel_rfl) (pu (iv 0) (by kernel_rfl) (seq_nil (wp_seq (wp_seq ?_)))))))))
 refine rgn (by kernel_rfl) (pu (iv 0) (by kernel_rfl) (seq_nil (wp_block ?_)))
 refine wp_loop (fun m ρ w => ∃ (n_116 : Int) (v117 : Int) (mm : Nat), Agree ρ [(0, iv p0), (3, iv n_116), (5, iv v117)] ∧ Inv [] w0 w [] ∧ F108l1 p0 mm n_116 v117 = some r ∧ mm = m) (m := N) ⟨0, 0, N, ⟨rfl, rfl, rfl, trivial⟩, hI.pickL [] (by decide) rfl, hF, rfl⟩ ?_
 rintro m ρ w ⟨n_116, v117, mm, hag, hI, hF, hm⟩
 subst hm; obtain ⟨ρ, rfl⟩ := hag.form; clear hag
 obtain _ | m1 := mm
 ·cases (show (none : Option Int) = some r from hF)
 replace hF : F108b1 p0 (F108l1 p0 m1) n_116 v117 = some r := hF; unfold F108b1 at hF
 refine wp_seq (rgn (by kernel_rfl) (ifE hF (fun h81 hF => ?_) (fun h81 hF => ?_)))
 ·
  refine seq_c (s_lss rfl rfl (fun _ => ?_) (fun h => absurd (a := v117 < 24) h81 h))
  refine seq_nil (wp_seq (wp_condT rfl (wp_skip (wp_cutO (fun ρ w => ∃ (n_122 : Int), Agree ρ [(0, iv p0), (3, iv n_122), (5, iv v117)] ∧ Inv [] w0 w [] ∧ F108j2 (F108l1 p0 m1) v117 n_122 = some r) ?_ ?_))))
  ·
   refine wp_block ?_
   refine wp_seq (rgn (by kernel_rfl) (pu (iv v117) (by kernel_rfl) (pu (iv v117) (by kernel_rfl) (seq_nil (wp_seq (rgn (by kernel_rfl) (pu (iv v117) (by kernel_rfl) (pu (iv p0) (by kernel_rfl) (bindE hF (fun y125 hy126 hF => ?_))))))))))
   refine ifE hF (fun h87 hF => ?_) (fun h87 hF => ?_)
   ·
    refine seq_c (s_callv hI 92 [iv v117, iv p0] (.bool true) (by kernel_rfl) (Does.mono (L92 _ v117 p0 _ hy126) (fun v' w' h => ⟨h.1.trans (congrArg Value.bool h87), h.2⟩)) ?_)
    intro w hI
    refine seq_nil (wp_condT rfl (rgn (by kernel_rfl) (pu (iv n_116) (by kernel_rfl) (ckE hF (fun h88 hF => ?_)))))
    refine seq_c (s_add rfl rfl h88 ?_)
    refine pu (iv (n_116 + 1)) (by kernel_rfl) (seq_nil ?_)
    exact .inl ⟨rfl, ⟨n_116 + 1, ⟨rfl, rfl, rfl, trivial⟩, hI.pickL [] (by decide) rfl, hF⟩⟩
   ·
    refine seq_c (s_callv hI 92 [iv v117, iv p0] (.bool false) (by kernel_rfl) (Does.mono (L92 _ v117 p0 _ hy126) (fun v' w' h => ⟨h.1.trans (congrArg Value.bool (Bool.eq_false_iff.2 h87)), h.2⟩)) ?_)
    intro w hI
    refine seq_nil (wp_condF rfl (wp_skip ?_))
    exact .inl ⟨rfl, ⟨n_116, ⟨rfl, rfl, rfl, trivial⟩, hI.pickL [] (by decide) rfl, hF⟩⟩
  ·intro ρ w hJ
   obtain ⟨n_122, hag, hI, hF⟩ := hJ
   obtain ⟨ρ, rfl⟩ := hag.form; clear hag
   unfold F108j2 at hF
   refine rgn (by kernel_rfl) (ckE hF (fun h85 hF => ?_))
   refine seq_c (s_add rfl rfl h85 ?_)
   refine pu (iv (v117 + 1)) (by kernel_rfl) (seq_nil ?_)
   exact ⟨rfl, m1, Nat.lt_succ_self _, ⟨n_122, v117 + 1, m1, ⟨rfl, rfl, rfl, trivial⟩, hI.pickL [] (by decide) rfl, hF, rfl⟩⟩
 ·
  refine seq_c (s_lss rfl rfl (fun h => absurd (a := v117 < 24) h h81) (fun _ => ?_))
  refine seq_nil (wp_seq (wp_condF rfl (wp_exit ?_)))
  refine wp_seq (rgn (by kernel_rfl) (pu (iv n_116) (by kernel_rfl) (pu (iv n_116) (by kernel_rfl) (seq_nil (wp_ret ?_)))))
  replace hF := Option.some.inj hF; subst hF
  exact ⟨iv n_116, Ret.r1 rfl rfl, ⟨rfl, hI.below⟩⟩


theorem L109 (w0 : World) (Ap0 : Option Addr) (cp0 : Nat) (lp0 : List Int) (hCp0 : Cells w0 Ap0 (flat eInt lp0)) (hMp0 : lp0.length ≤ 9223372036854775807) (hKp0 : lp0.length ≤ cp0) (N : Nat) (r : Int) (hF : F109 N lp0 = some r) : Does Try.prog 109 [.slice Ap0 lp0.length cp0] w0 fun v w => v = .int .i64 r ∧ Below w0.heap.size w0 w := by
 refine calls_of (n := 17) Try.func109 rfl Try.ntmps109 rfl ?_
 have hI := Inv.start w0
 unfold F109 at hF
 refine wp_seq (rgn (by kernel_rfl) (pu (iv 0) (by kernel_rfl) (seq_nil (wp_seq (rgn (by kernel_rfl) (pu (iv 0) (by kernel_rfl) (seq_nil (wp_seq (wp_seq ?_)))))))))
 refine rgn (by kernel_rfl) (pu (.slice Ap0 lp0.length cp0) (by kernel_rfl) (pu (iv ((lp0.length : Nat) : Int)) (by kernel_rfl) (pu (iv 0) (by kernel_rfl) (seq_nil (wp_block ?_)))))
 refine wp_loop (fun m ρ w => ∃ (total_171 : Int) (v172 : Int) (mm : Nat), Agree ρ [(3, iv total_171), (6, .slice Ap0 lp0.length cp0), (7, iv (lp0.length : Int)), (8, iv v172)] ∧ Inv [] w0 w [] ∧ F109l1 lp0 mm total_171 v172 = some r ∧ mm = m) (m := N) ⟨0, 0, N, ⟨rfl, rfl, rfl, rfl, trivial⟩, hI.pickL [] (by decide) rfl, hF, rfl⟩ ?_
 rintro m ρ w ⟨total_171, v172, mm, hag, hI, hF, hm⟩
 subst hm; obtain ⟨ρ, rfl⟩ := hag.form; clear hag
 obtain _ | m1 := mm
 ·cases (show (none : Option Int) = some r from hF)
 replace hF : F109b1 lp0 (F109l1 lp0 m1) total_171 v172 = some r := hF; unfold F109b1 at hF
 refine wp_seq (rgn (by kernel_rfl) (ifE hF (fun h67 hF => ?_) (fun h67 hF => ?_)))
 ·
  refine seq_c (s_lss rfl rfl (fun _ => ?_) (fun h => absurd (a := v172 < (lp0.length : Int)) h67 h))
  refine seq_nil (wp_seq (wp_condT rfl (wp_skip (wp_seq (wp_block ?_)))))
  refine wp_seq (rgn (by kernel_rfl) (gdE hF (fun h70 hF => ?_)))
  refine bindE hF (fun x180 hx181 hF => ?_)
  obtain ⟨b182, o183, hA184, hb185, he186⟩ := hCp0.at_ eInt_len (by decide) hx181
  refine seq_c (s_indexA (v172).toNat Try.underlying49 Try.sizeOf3 rfl hA184 rfl (Int.toNat_of_nonneg h70).symm (lt_n hx181 rfl) ?_)
  refine seq_c (s_loadB1 hI (iv x180) Try.isAgg3 rfl hb185 (by simp) (he186 0 _ rfl) ?_)
  refine pu (iv x180) (by kernel_rfl) (seq_nil (rgn (by kernel_rfl) (pu (iv total_171) (by kernel_rfl) (pu (iv x180) (by kernel_rfl) (ckE hF (fun h71 hF => ?_))))))
  refine seq_c (s_add rfl rfl h71 ?_)
  refine pu (iv (total_171 + x180)) (by kernel_rfl) (seq_nil (rgn (by kernel_rfl) (ckE hF (fun h72 hF => ?_))))
  refine seq_c (s_add rfl rfl h72 ?_)
  refine pu (iv (v172 + 1)) (by kernel_rfl) (seq_nil ?_)
  exact ⟨rfl, m1, Nat.lt_succ_self _, ⟨total_171 + x180, v172 + 1, m1, ⟨rfl, rfl, rfl, rfl, trivial⟩, hI.pickL [] (by decide) rfl, hF, rfl⟩⟩
 ·
  refine seq_c (s_lss rfl rfl (fun h => absurd (a := v172 < (lp0.length : Int)) h h67) (fun _ => ?_))
  refine seq_nil (wp_seq (wp_condF rfl (wp_exit ?_)))
  refine wp_seq (rgn (by kernel_rfl) (pu (iv total_171) (by kernel_rfl) (pu (iv total_171) (by kernel_rfl) (seq_nil (wp_ret ?_)))))
  replace hF := Option.some.inj hF; subst hF
  exact ⟨iv total_171, Ret.r1 rfl rfl, ⟨rfl, hI.below⟩⟩


theorem L90 (w0 : World) (p0_0 : Int) (Ap0_1 : Option Addr) (cp0_1 : Nat) (lp0_1 : List Cm) (Ap1 : Option Addr) (cp1 : Nat) (lp1 : List Int) (Ap2 : Option Addr) (cp2 : Nat) (lp2 : List Int) (hCp0_1 : Cells w0 Ap0_1 (flat eCm lp0_1)) (hMp0_1 : lp0_1.length ≤ 9223372036854775807) (hKp0_1 : lp0_1.length ≤ cp0_1) (hCp1 : Cells w0 Ap1 (flat eInt lp1)) (hMp1 : lp1.length ≤ 9223372036854775807) (hKp1 : lp1.length ≤ cp1) (hCp2 : Cells w0 Ap2 (flat eInt lp2)) (hMp2 : lp2.length ≤ 9223372036854775807) (hKp2 : lp2.length ≤ cp2) (N : Nat) (r : Bool) (hF : F90 N p0_0 lp0_1 lp1 lp2 = some r) : Does Try.prog 90 [.agg #[.int .i64 p0_0, .slice Ap0_1 lp0_1.length cp0_1], .slice Ap1 lp1.length cp1, .slice Ap2 lp2.length cp2] w0 fun v w => v = .bool r ∧ Below w0.heap.size w0 w := by
 refine calls_of (n := 51) Try.func90 rfl Try.ntmps90 rfl ?_
 have hI := Inv.start w0
 unfold F90 at hF
 refine wp_seq (rgn (by kernel_rfl) (seq_c (s_boxI hI [iv p0_0, .slice Ap0_1 lp0_1.length cp0_1] rfl ?_)))
 intro b409 w hI
 refine pu (.bool false) (by kernel_rfl) (seq_nil (wp_seq (rgn (by kernel_rfl) (pu (iv 0) (by kernel_rfl) (pu (iv 0) (by kernel_rfl) (seq_nil (wp_seq (rgn (by kernel_rfl) (pu (.slice none 0 0) (by kernel_rfl) ?_)))))))))
 refine seq_nil (wp_cutO (fun ρ w => ∃ (g608 : Option Nat) (c609 : Nat) (cl610 : List Value) (hours_606 : Int) (demanded_607 : List Int), Agree ρ [(7, iv hours_606), (9, slv g608 demanded_607.length c609)] ∧ Inv [] w0 w [(g608, blk cl610 3)] ∧ (Row 1 g608 (demanded_607.length) c609 cl610 (flat eInt demanded_607)) ∧ F90j1 N hours_606 demanded_607 = some r) ?_ ?_)
 ·
  refine wp_seq (rgn (by kernel_rfl) (pu (.slice Ap2 lp2.length cp2) (by kernel_rfl) (pu (iv ((lp2.length : Nat) : Int)) (by kernel_rfl) (pu (iv 0) (by kernel_rfl) (seq_nil (wp_block ?_))))))
  have hI := hI.nilRow 3
  refine wp_loop (fun m ρ w => ∃ (g752 : Option Nat) (c753 : Nat) (cl754 : List Value) (hours_749 : Int) (last_750 : Int) (demanded_751 : List Int) (v756 : Int) (mm : Nat), Agree ρ [(1, .slice Ap1 lp1.length cp1), (3, .pointer (some ⟨b409, 0, none⟩)), (7, iv hours_749), (8, iv last_750), (9, slv g752 demanded_751.length c753), (13, .slice Ap2 lp2.length cp2), (14, iv (lp2.length : Int)), (15, iv v756)] ∧ Inv [] w0 w [(some b409, blk [iv p0_0, .slice Ap0_1 lp0_1.length cp0_1] 24), (g752, blk cl754 3)] ∧ (Row 1 g752 (demanded_751.length) c753 cl754 (flat eInt demanded_751)) ∧ F90l2 p0_0 lp0_1 lp1 lp2 N mm hours_749 last_750 demanded_751 v756 = some r ∧ mm = m) (m := N) ⟨none, 0, [], 0, 0, [], 0, N, ⟨rfl, rfl, rfl, rfl, rfl, rfl, rfl, rfl, trivial⟩, hI.pickL [1, 0] (by decide) rfl, (Row.nil_ 1), hF, rfl⟩ ?_
  rintro m ρ w ⟨g752, c753, cl754, hours_749, last_750, demanded_751, v756, mm, hag, hI, r755, hF, hm⟩
  subst hm; obtain ⟨ρ, rfl⟩ := hag.form; clear hag
  obtain _ | m2 := mm
  ·cases (show (none : Option Bool) = some r from hF)
  replace hF : F90b2 p0_0 lp0_1 lp1 lp2 N (F90l2 p0_0 lp0_1 lp1 lp2 N m2) hours_749 last_750 demanded_751 v756 = some r := hF; unfold F90b2 at hF
  refine wp_seq (rgn (by kernel_rfl) (ifE hF (fun h341 hF => ?_) (fun h341 hF => ?_)))
  ·
   refine seq_c (s_lss rfl rfl (fun _ => ?_) (fun h => absurd (a := v756 < (lp2.length : Int)) h341 h))
   refine seq_nil (wp_seq (wp_condT rfl (wp_skip (wp_seq (wp_block ?_)))))
   refine wp_seq (rgn (by kernel_rfl) (gdE hF (fun h357 hF => ?_)))
   refine bindE hF (fun x787 hx788 hF => ?_)
   obtain ⟨b789, o790, hA791, hb792, he793⟩ := hCp2.at_ eInt_len (by decide) hx788
   refine seq_c (s_indexA (v756).toNat Try.underlying49 Try.sizeOf3 rfl hA791 rfl (Int.toNat_of_nonneg h357).symm (lt_n hx788 rfl) ?_)
   refine seq_c (s_loadB1 hI (iv x787) Try.isAgg3 rfl hb792 (by simp) (he793 0 _ rfl) ?_)
   refine pu (iv x787) (by kernel_rfl) (seq_nil (wp_seq (rgn (by kernel_rfl) (seq_c (s_loadK hI 0 2 [iv p0_0, .slice Ap0_1 lp0_1.length cp0_1] Try.isAgg24 Try.sizeOf24 rfl rfl rfl rfl ?_)))))
   refine pu (iv x787) (by kernel_rfl) (bindE hF (fun y796 hy797 hF => ?_))
   refine seq_c (s_callv hI 98 [.agg #[iv p0_0, .slice Ap0_1 lp0_1.length cp0_1], iv x787] (iv y796) (by kernel_rfl) (L98 _ p0_0 Ap0_1 cp0_1 lp0_1 x787 (hCp0_1.inv0 hI) hMp0_1 hKp0_1 N _ hy797) ?_)
   intro w hI
   refine pu (iv y796) (by kernel_rfl) (seq_nil (wp_seq (wp_seq (rgn (by kernel_rfl) (pu (iv y796) (by kernel_rfl) (ifE hF (fun h364 hF => ?_) (fun h364 hF => ?_)))))))
   ·
    refine seq_c (s_eql rfl rfl (fun _ => ?_) (fun h => absurd (a := y796 = (-1)) h364 h))
    refine pu (.bool true) (by kernel_rfl) (of_ (by kernel_rfl) (of_ (by kernel_rfl) (of_ (by kernel_rfl) (pu (.bool true) (by kernel_rfl) (seq_nil (wp_condT rfl (wp_seq (rgn (by kernel_rfl) (pu (.bool false) (by kernel_rfl) ?_)))))))))
    refine seq_nil (wp_ret ?_)
    replace hF := Option.some.inj hF; subst hF
    exact ⟨.bool false, Ret.r1 rfl rfl, ⟨rfl, hI.below⟩⟩
   ·
    refine seq_c (s_eql rfl rfl (fun h => absurd (a := y796 = (-1)) h h364) (fun _ => ?_))
    refine pu (.bool false) (by kernel_rfl) (puo (iv x787) ⟨(by kernel_rfl), (by kernel_rfl)⟩ (puo (iv last_750) ⟨(by kernel_rfl), (by kernel_rfl)⟩ (ifE hF (fun h365 hF => ?_) (fun h365 hF => ?_))))
    ·
     refine seq_on (by kernel_rfl) (s_leq rfl rfl (fun _ => ?_) (fun h => absurd (a := x787 ≤ last_750) h365 h))
     refine pu (.bool true) (by kernel_rfl) (seq_nil (wp_condT rfl (wp_seq (rgn (by kernel_rfl) (pu (.bool false) (by kernel_rfl) (seq_nil (wp_ret ?_)))))))
     replace hF := Option.some.inj hF; subst hF
     exact ⟨.bool false, Ret.r1 rfl rfl, ⟨rfl, hI.below⟩⟩
    ·
     refine seq_on (by kernel_rfl) (s_leq rfl rfl (fun h => absurd (a := x787 ≤ last_750) h h365) (fun _ => ?_))
     refine pu (.bool false) (by kernel_rfl) (seq_nil (wp_condF rfl (wp_skip (wp_seq (rgn (by kernel_rfl) (pu (iv x787) (by kernel_rfl) (pu (iv x787) (by kernel_rfl) (seq_nil (wp_seq ?_)))))))))
     refine rgn (by kernel_rfl) (pu (iv hours_749) (by kernel_rfl) (pu (.pointer (some ⟨b409, 1, none⟩)) (by kernel_rfl) (seq_c (s_load1 hI 0 (.slice Ap0_1 lp0_1.length cp0_1) Try.isAgg22 rfl rfl rfl ?_))))
     refine pu (iv y796) (by kernel_rfl) (gdE hF (fun h366 hF => ?_))
     refine bindE hF (fun x798 hx799 hF => ?_)
     obtain ⟨b800, o801, hA802, hb803, he804⟩ := hCp0_1.at_ eCm_len (by decide) hx799
     refine seq_c (s_indexA (y796).toNat Try.underlying22 Try.sizeOf26 rfl hA802 rfl (Int.toNat_of_nonneg h366).symm (lt_n hx799 rfl) ?_)
     refine pu (.pointer (some ⟨b800, o801 + (y796).toNat * 3 + 1, none⟩)) (by kernel_rfl) (seq_c (s_loadB1 hI (iv x798.hrs) Try.isAgg3 rfl hb803 (by simp) (he804 1 _ rfl) ?_))
     refine gdE hF (fun h367 hF => ?_)
     refine gdE hF (fun h368 hF => ?_)
     refine ckE hF (fun h369 hF => ?_)
     refine ckE hF (fun h370 hF => ?_)
     refine seq_c (s_or rfl rfl h367 h368 h369 h370 ?_)
     refine pu (iv (orI hours_749 x798.hrs)) (by kernel_rfl) (seq_nil (rgn (by kernel_rfl) (pu (slv g752 demanded_751.length c753) (by kernel_rfl) (pu (.slice Ap1 lp1.length cp1) (by kernel_rfl) (pu (iv y796) (by kernel_rfl) (bindE hF (fun x805 hx806 hF => ?_)))))))
     obtain ⟨b807, o808, hA809, hb810, he811⟩ := hCp1.at_ eInt_len (by decide) hx806
     refine seq_c (s_indexA (y796).toNat Try.underlying49 Try.sizeOf3 rfl hA809 rfl (Int.toNat_of_nonneg h366).symm (lt_n hx806 rfl) ?_)
     refine seq_c (s_loadB1 hI (iv x805) Try.isAgg3 rfl hb810 (by simp) (he811 0 _ rfl) ?_)
     refine seq_c (s_new hI [iv x805] 3 (fun b => slv (some b) 1 1) (by kernel_rfl) ?_)
     intro b812 w hI
     refine gdE hF (fun h371 hF => ?_)
     refine seq_c (s_appN hI Try.underlying49 (z := iv 0) (k := 1) (bytes := 8) (by kernel_rfl) rfl rfl 2 rfl rfl r755 [iv x805] rfl rfl (hI.cells 0 (off := 0) rfl (fun j u h => by rw [Nat.zero_add]; exact h)) (by simp [Value.oneCell']) (by omega) (by omega) (n2 := (demanded_751 ++ [x805]).length) (app_len rfl rfl) ?_)
     intro g813 c814 cl815 w hI r816
     have r816 : Row 1 g813 ((demanded_751 ++ [x805]).length) c814 cl815 (flat eInt (demanded_751 ++ [x805])) := r816.snoc _ rfl
     refine pu (slv g813 ((demanded_751 ++ [x805]).length) c814) (by kernel_rfl) (seq_nil (rgn (by kernel_rfl) (ckE hF (fun h372 hF => ?_))))
     refine seq_c (s_add rfl rfl h372 ?_)
     refine pu (iv (v756 + 1)) (by kernel_rfl) (seq_nil ?_)
     exact ⟨rfl, m2, Nat.lt_succ_self _, ⟨g813, c814, cl815, orI hours_749 x798.hrs, x787, demanded_751 ++ [x805], v756 + 1, m2, ⟨rfl, rfl, rfl, rfl, rfl, rfl, rfl, rfl, trivial⟩, hI.pickL [1, 2] (by decide) rfl, (r816.to rfl rfl), hF, rfl⟩⟩
  ·
   refine seq_c (s_lss rfl rfl (fun h => absurd (a := v756 < (lp2.length : Int)) h h341) (fun _ => ?_))
   refine seq_nil (wp_seq (wp_condF rfl (wp_exit ?_)))
   exact .inl ⟨rfl, ⟨g752, c753, cl754, hours_749, demanded_751, ⟨rfl, rfl, trivial⟩, hI.pickL [1] (by decide) rfl, (r755.to rfl rfl), hF⟩⟩
 ·intro ρ w hJ
  obtain ⟨g608, c609, cl610, hours_606, demanded_607, hag, hI, r611, hF⟩ := hJ
  obtain ⟨ρ, rfl⟩ := hag.form; clear hag
  unfold F90j1 at hF
  refine wp_seq (rgn (by kernel_rfl) (pu (iv hours_606) (by kernel_rfl) (bindE hF (fun y617 hy618 hF => ?_))))
  refine seq_c (s_callv hI 108 [iv hours_606] (iv y617) (by kernel_rfl) (L108 _ hours_606 N _ hy618) ?_)
  intro w hI
  refine pu (slv g608 demanded_607.length c609) (by kernel_rfl) (bindE hF (fun y619 hy620 hF => ?_))
  refine seq_c (s_callv hI 109 [slv g608 demanded_607.length c609] (iv y619) (by kernel_rfl) (L109 _ (g608.map fun b => ⟨b, 0, none⟩) c609 demanded_607 (hI.rowCells 0 rfl r611) (len_le rfl r611.big) (len_le rfl r611.cap) N _ hy620) ?_)
  intro w hI
  refine ifE hF (fun h280 hF => ?_) (fun h280 hF => ?_)
  ·
   refine seq_c (s_lss rfl rfl (fun _ => ?_) (fun h => absurd (a := y617 < y619) h280 h))
   refine pu (.bool true) (by kernel_rfl) (seq_nil (wp_ret ?_))
   replace hF := Option.some.inj hF; subst hF
   exact ⟨.bool true, Ret.r1 rfl rfl, ⟨rfl, hI.below⟩⟩
  ·
   refine seq_c (s_lss rfl rfl (fun h => absurd (a := y617 < y619) h h280) (fun _ => ?_))
   refine pu (.bool false) (by kernel_rfl) (seq_nil (wp_ret ?_))
   replace hF := Option.some.inj hF; subst hF
   exact ⟨.bool false, Ret.r1 rfl rfl, ⟨rfl, hI.below⟩⟩


theorem L50 (w0 : World) (p0_0 : Int) (Ap0_1 : Option Addr) (cp0_1 : Nat) (lp0_1 : List Cm) (Ap1 : Option Addr) (cp1 : Nat) (lp1 : List Int) (Ap2 : Option Addr) (cp2 : Nat) (lp2 : List Int) (hCp0_1 : Cells w0 Ap0_1 (flat eCm lp0_1)) (hMp0_1 : lp0_1.length ≤ 9223372036854775807) (hKp0_1 : lp0_1.length ≤ cp0_1) (hCp1 : Cells w0 Ap1 (flat eInt lp1)) (hMp1 : lp1.length ≤ 9223372036854775807) (hKp1 : lp1.length ≤ cp1) (hCp2 : Cells w0 Ap2 (flat eInt lp2)) (hMp2 : lp2.length ≤ 9223372036854775807) (hKp2 : lp2.length ≤ cp2) (N : Nat) (r : Int) (hF : F50 N p0_0 lp0_1 lp1 lp2 = some r) : Does Try.prog 50 [.agg #[.int .i64 p0_0, .slice Ap0_1 lp0_1.length cp0_1], .slice Ap1 lp1.length cp1, .slice Ap2 lp2.length cp2] w0 fun v w => v = .int .i64 r ∧ Below w0.heap.size w0 w := by
 refine calls_of (n := 19) Try.func50 rfl Try.ntmps50 rfl ?_
 have hI := Inv.start w0
 unfold F50 at hF
 refine wp_seq (rgn (by kernel_rfl) (seq_c (s_boxI hI [iv p0_0, .slice Ap0_1 lp0_1.length cp0_1] rfl ?_)))
 intro b18 w hI
 refine pu (iv 0) (by kernel_rfl) (seq_nil (wp_seq (wp_seq (rgn (by kernel_rfl) (seq_c (s_loadK hI 0 2 [iv p0_0, .slice Ap0_1 lp0_1.length cp0_1] Try.isAgg24 Try.sizeOf24 rfl rfl rfl rfl ?_))))))
 refine pu (.slice Ap1 lp1.length cp1) (by kernel_rfl) (bindE hF (fun y25 hy26 hF => ?_))
 refine seq_c (s_callv hI 86 [.agg #[iv p0_0, .slice Ap0_1 lp0_1.length cp0_1], .slice Ap1 lp1.length cp1] (iv y25) (by kernel_rfl) (L86 _ p0_0 Ap0_1 cp0_1 lp0_1 Ap1 cp1 lp1 (hCp0_1.inv0 hI) hMp0_1 hKp0_1 (hCp1.inv0 hI) hMp1 hKp1 N _ hy26) ?_)
 intro w hI
 refine pu (iv y25) (by kernel_rfl) (seq_nil (wp_seq (rgn (by kernel_rfl) (pu (iv y25) (by kernel_rfl) (ifE hF (fun h12 hF => ?_) (fun h12 hF => ?_))))))
 ·
  refine seq_c (s_neq rfl rfl (fun h => absurd (a := y25 = 0) h12 h) (fun _ => ?_))
  refine seq_nil (wp_condF rfl (wp_skip (wp_seq (wp_seq (rgn (by kernel_rfl) (seq_c (s_loadK hI 0 2 [iv p0_0, .slice Ap0_1 lp0_1.length cp0_1] Try.isAgg24 Try.sizeOf24 rfl rfl rfl rfl ?_)))))))
  refine pu (.slice Ap1 lp1.length cp1) (by kernel_rfl) (pu (.slice Ap2 lp2.length cp2) (by kernel_rfl) (bindE hF (fun y33 hy34 hF => ?_)))
  refine ifE hF (fun h16 hF => ?_) (fun h16 hF => ?_)
  ·
   refine seq_c (s_callv hI 90 [.agg #[iv p0_0, .slice Ap0_1 lp0_1.length cp0_1], .slice Ap1 lp1.length cp1, .slice Ap2 lp2.length cp2] (.bool true) (by kernel_rfl) (Does.mono (L90 _ p0_0 Ap0_1 cp0_1 lp0_1 Ap1 cp1 lp1 Ap2 cp2 lp2 (hCp0_1.inv0 hI) hMp0_1 hKp0_1 (hCp1.inv0 hI) hMp1 hKp1 (hCp2.inv0 hI) hMp2 hKp2 N _ hy34) (fun v' w' h => ⟨h.1.trans (congrArg Value.bool h16), h.2⟩)) ?_)
   intro w hI
   refine pu (.bool false) (by kernel_rfl) (seq_nil (wp_condF rfl (wp_skip (wp_seq (rgn (by kernel_rfl) (pu (iv 0) (by kernel_rfl) (seq_nil (wp_ret ?_))))))))
   replace hF := Option.some.inj hF; subst hF
   exact ⟨iv 0, Ret.r1 rfl rfl, ⟨rfl, hI.below⟩⟩
  ·
   refine seq_c (s_callv hI 90 [.agg #[iv p0_0, .slice Ap0_1 lp0_1.length cp0_1], .slice Ap1 lp1.length cp1, .slice Ap2 lp2.length cp2] (.bool false) (by kernel_rfl) (Does.mono (L90 _ p0_0 Ap0_1 cp0_1 lp0_1 Ap1 cp1 lp1 Ap2 cp2 lp2 (hCp0_1.inv0 hI) hMp0_1 hKp0_1 (hCp1.inv0 hI) hMp1 hKp1 (hCp2.inv0 hI) hMp2 hKp2 N _ hy34) (fun v' w' h => ⟨h.1.trans (congrArg Value.bool (Bool.eq_false_iff.2 h16)), h.2⟩)) ?_)
   intro w hI
   refine pu (.bool true) (by kernel_rfl) (seq_nil (wp_condT rfl (wp_seq (rgn (by kernel_rfl) (pu (iv 54) (by kernel_rfl) (seq_nil (wp_ret ?_)))))))
   replace hF := Option.some.inj hF; subst hF
   exact ⟨iv 54, Ret.r1 rfl rfl, ⟨rfl, hI.below⟩⟩
 ·
  refine seq_c (s_neq rfl rfl (fun _ => ?_) (fun h => absurd (a := y25 = 0) h h12))
  refine seq_nil (wp_condT rfl (wp_seq (rgn (by kernel_rfl) (pu (iv y25) (by kernel_rfl) (pu (iv y25) (by kernel_rfl) (seq_nil (wp_ret ?_)))))))
  replace hF := Option.some.inj hF; subst hF
  exact ⟨iv y25, Ret.r1 rfl rfl, ⟨rfl, hI.below⟩⟩


theorem L94 (w0 : World) (p0_0 : Int) (Ap0_1 : Option Addr) (cp0_1 : Nat) (lp0_1 : List Cm) (p1 : Int) (p2 : Int) (hCp0_1 : Cells w0 Ap0_1 (flat eCm lp0_1)) (hMp0_1 : lp0_1.length ≤ 9223372036854775807) (hKp0_1 : lp0_1.length ≤ cp0_1) (r : Bool) (hF : F94 p0_0 lp0_1 p1 p2 = some r) : Does Try.prog 94 [.agg #[.int .i64 p0_0, .slice Ap0_1 lp0_1.length cp0_1], .int .i64 p1, .int .i64 p2] w0 fun v w => v = .bool r ∧ Below w0.heap.size w0 w := by
 refine calls_of (n := 17) Try.func94 rfl Try.ntmps94 rfl ?_
 have hI := Inv.start w0
 unfold F94 at hF
 refine wp_seq (rgn (by kernel_rfl) (seq_c (s_boxI hI [iv p0_0, .slice Ap0_1 lp0_1.length cp0_1] rfl ?_)))
 intro b37 w hI
 refine pu (.bool false) (by kernel_rfl) (seq_nil (wp_seq (gdE hF (fun h22 hF => ?_))))
 refine bindE hF (fun x56 hx57 hF => ?_)
 refine gdE hF (fun h23 hF => ?_)
 refine ckE hF (fun h24 hF => ?_)
 refine gdE hF (fun h25 hF => ?_)
 refine gdE hF (fun h26 hF => ?_)
 refine ckE hF (fun h27 hF => ?_)
 refine ifE hF (fun h28 hF => ?_) (fun h28 hF => ?_)
 ·
  refine wp_drawn2 hI [0] (by decide) rfl (by kernel_rfl) (by kernel_rfl) ?_
  intro hsub
  refine alp 0 (.pointer (some ⟨b37, 1, none⟩)) hsub rfl (by kernel_rfl) (fun _ => (by kernel_rfl)) ?_
  refine al_light 1 (.slice Ap0_1 lp0_1.length cp0_1) hsub rfl (by kernel_rfl) (fun w hI => s_load1 hI 0 (.slice Ap0_1 lp0_1.length cp0_1) Try.isAgg22 rfl rfl rfl ⟨rfl, Below.refl _ _⟩) ?_
  refine alp 2 (iv p1) hsub rfl (by kernel_rfl) (fun _ => (by kernel_rfl)) ?_
  obtain ⟨b63, o64, hA65, hb66, he67⟩ := hCp0_1.at_ eCm_len (by decide) hx57
  refine al_light 3 (.pointer (some ⟨b63, o64 + (p1).toNat * 3, none⟩)) hsub rfl (by kernel_rfl) (fun w hI => s_indexA (p1).toNat Try.underlying22 Try.sizeOf26 rfl hA65 rfl (Int.toNat_of_nonneg h22).symm (lt_n hx57 rfl) ⟨rfl, Below.refl _ _⟩) ?_
  refine alp 4 (.pointer (some ⟨b63, o64 + (p1).toNat * 3 + 1, none⟩)) hsub rfl (by kernel_rfl) (fun _ => (by kernel_rfl)) ?_
  refine al_light 5 (iv x56.hrs) hsub rfl (by kernel_rfl) (fun w hI => s_loadB1 hI (iv x56.hrs) Try.isAgg3 rfl hb66 (by simp) (he67 1 _ rfl) ⟨rfl, Below.refl _ _⟩) ?_
  refine alp 6 (iv p2) hsub rfl (by kernel_rfl) (fun _ => (by kernel_rfl)) ?_
  refine al_light 7 (iv ((1 : Int) * 2 ^ (p2 : Int).toNat)) hsub rfl (by kernel_rfl) (fun w hI => s_shl rfl rfl h23 h24 ⟨rfl, Below.refl _ _⟩) ?_
  refine al_light 8 (iv (andI x56.hrs ((1 : Int) * 2 ^ (p2 : Int).toNat))) hsub rfl (by kernel_rfl) (fun w hI => s_and rfl rfl h25 h26 h27 h24 ⟨rfl, Below.refl _ _⟩) ?_
  refine al_light 9 (.bool false) hsub rfl (by kernel_rfl) (fun w hI => s_neq rfl rfl (fun h => absurd (a := (andI x56.hrs ((1 : Int) * 2 ^ (p2 : Int).toNat)) = 0) h28 h) (fun _ => ⟨rfl, Below.refl _ _⟩)) ?_
  refine alp 10 (.bool false) hsub rfl (by kernel_rfl) (fun _ => (by kernel_rfl)) ?_
  refine any_end (by kernel_rfl) (fun w hI => ?_)
  refine wp_ret ?_
  replace hF := Option.some.inj hF; subst hF
  exact ⟨.bool false, Ret.r1 rfl rfl, ⟨rfl, hI.below⟩⟩
 ·
  refine wp_drawn2 hI [0] (by decide) rfl (by kernel_rfl) (by kernel_rfl) ?_
  intro hsub
  refine alp 0 (.pointer (some ⟨b37, 1, none⟩)) hsub rfl (by kernel_rfl) (fun _ => (by kernel_rfl)) ?_
  refine al_light 1 (.slice Ap0_1 lp0_1.length cp0_1) hsub rfl (by kernel_rfl) (fun w hI => s_load1 hI 0 (.slice Ap0_1 lp0_1.length cp0_1) Try.isAgg22 rfl rfl rfl ⟨rfl, Below.refl _ _⟩) ?_
  refine alp 2 (iv p1) hsub rfl (by kernel_rfl) (fun _ => (by kernel_rfl)) ?_
  obtain ⟨b68, o69, hA70, hb71, he72⟩ := hCp0_1.at_ eCm_len (by decide) hx57
  refine al_light 3 (.pointer (some ⟨b68, o69 + (p1).toNat * 3, none⟩)) hsub rfl (by kernel_rfl) (fun w hI => s_indexA (p1).toNat Try.underlying22 Try.sizeOf26 rfl hA70 rfl (Int.toNat_of_nonneg h22).symm (lt_n hx57 rfl) ⟨rfl, Below.refl _ _⟩) ?_
  refine alp 4 (.pointer (some ⟨b68, o69 + (p1).toNat * 3 + 1, none⟩)) hsub rfl (by kernel_rfl) (fun _ => (by kernel_rfl)) ?_
  refine al_light 5 (iv x56.hrs) hsub rfl (by kernel_rfl) (fun w hI => s_loadB1 hI (iv x56.hrs) Try.isAgg3 rfl hb71 (by simp) (he72 1 _ rfl) ⟨rfl, Below.refl _ _⟩) ?_
  refine alp 6 (iv p2) hsub rfl (by kernel_rfl) (fun _ => (by kernel_rfl)) ?_
  refine al_light 7 (iv ((1 : Int) * 2 ^ (p2 : Int).toNat)) hsub rfl (by kernel_rfl) (fun w hI => s_shl rfl rfl h23 h24 ⟨rfl, Below.refl _ _⟩) ?_
  refine al_light 8 (iv (andI x56.hrs ((1 : Int) * 2 ^ (p2 : Int).toNat))) hsub rfl (by kernel_rfl) (fun w hI => s_and rfl rfl h25 h26 h27 h24 ⟨rfl, Below.refl _ _⟩) ?_
  refine al_light 9 (.bool true) hsub rfl (by kernel_rfl) (fun w hI => s_neq rfl rfl (fun _ => ⟨rfl, Below.refl _ _⟩) (fun h => absurd (a := (andI x56.hrs ((1 : Int) * 2 ^ (p2 : Int).toNat)) = 0) h h28)) ?_
  refine alp 10 (.bool true) hsub rfl (by kernel_rfl) (fun _ => (by kernel_rfl)) ?_
  refine any_end (by kernel_rfl) (fun w hI => ?_)
  refine wp_ret ?_
  replace hF := Option.some.inj hF; subst hF
  exact ⟨.bool true, Ret.r1 rfl rfl, ⟨rfl, hI.below⟩⟩


end Go.K
