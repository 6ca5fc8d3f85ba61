/- Stands. -/
import Derived.Test.YtinkdlmimiefaaaGreatProg
import Derived.Test.YtinkdlmimiefaaaGreatPM8
import Derived.Test.YtinkdlmimiefaaaGreatPM23
namespace Go.K
open Go.Proofs Go.RowKit
set_option linter.unusedVariables false
set_option linter.unusedSimpArgs false
set_option maxRecDepth 100000
attribute [local irreducible] Seq Step CallV AnyE opX

set_option maxHeartbeats 1600000 in
theorem Stands_c (w0 : World) (pl : Pl) (pA1 : Option Addr) (pn1 pc1 : Nat) (pA2 : Option Addr) (pn2 pc2 : Nat) (pA3 : Option Addr) (pn3 pc3 : Nat) (hP : PlotIn w0 pl pA1 pn1 pA2 pn2 pA3 pn3) (xx : Ld) : Does Tryz.prog 14 [.agg #[.int .i64 pl.lo, .int .i64 pl.hi, .slice pA1 pn1 pc1, .slice pA2 pn2 pc2, .slice pA3 pn3 pc3, .int .i64 pl.geese], .agg #[.int .i64 xx.src, .int .i64 xx.hr, .int .i64 xx.lo, .int .i64 xx.hi, .int .i64 xx.kn, .int .i64 xx.un]] w0 fun v w => ∃ v1, v = .tuple #[v1, .int .i64 (standsF pl xx).2] ∧ GivesPlot (standsF pl xx).1 w0 v1 w := by
 have hm1 := hP.m1; have hm2 := hP.m2; have hm3 := hP.m3
 refine calls_of (n := 58) Tryz.func14 rfl Tryz.ntmps14 rfl ?_
 have hI := Inv.start w0
 refine wp_seq (rgn (by kernel_rfl) (seq_c (s_boxI hI [iv pl.lo, iv pl.hi, .slice pA1 pn1 pc1, .slice pA2 pn2 pc2, .slice pA3 pn3 pc3, iv pl.geese] rfl ?_)))
 intro b1 w hI
 refine seq_c (s_boxI hI [iv xx.src, iv xx.hr, iv xx.lo, iv xx.hi, iv xx.kn, iv xx.un] rfl ?_)
 intro b2 w hI
 refine seq_c (s_allocI hI [iv 0, iv 0, .slice none 0 0, .slice none 0 0, .slice none 0 0, iv 0] Tryz.zeroValue28 rfl ?_)
 intro b3 w hI
 refine pu (iv 0) (by kernel_rfl) (seq_nil (wp_seq (wp_seq (rgn (by kernel_rfl) (seq_c (s_loadK hI 2 6 [iv pl.lo, iv pl.hi, .slice pA1 pn1 pc1, .slice pA2 pn2 pc2, .slice pA3 pn3 pc3, iv pl.geese] Tryz.isAgg28 Tryz.sizeOf28 rfl rfl rfl rfl ?_))))))
 refine seq_c (s_callv hI 22 [.agg #[iv pl.lo, iv pl.hi, .slice pA1 pn1 pc1, .slice pA2 pn2 pc2, .slice pA3 pn3 pc3, iv pl.geese]] (iv (codeI (plotB pl) 13)) (by kernel_rfl) (Check_c _ pl pA1 pn1 pc1 pA2 pn2 pc2 pA3 pn3 pc3 (hP.inv0 hI)) ?_)
 intro w hI
 refine pu (iv (codeI (plotB pl) 13)) (by kernel_rfl) (seq_nil (wp_seq (rgn (by kernel_rfl) (pu (iv (codeI (plotB pl) 13)) (by kernel_rfl) (seq_c (s_neq rfl rfl ?_ ?_))))))
 ·intro h1
  refine seq_nil (wp_condT rfl (wp_seq (rgn (by kernel_rfl) (pu (.agg #[iv 0, iv 0, .slice none 0 0, .slice none 0 0, .slice none 0 0, iv 0]) (by kernel_rfl) (pu (iv (codeI (plotB pl) 13)) (by kernel_rfl) (seq_c (s_store hI 0 6 [iv 0, iv 0, .slice none 0 0, .slice none 0 0, .slice none 0 0, iv 0] Tryz.sizeOf28 rfl rfl rfl rfl rfl (Nat.le_of_ble_eq_true rfl) ?_)))))))
  intro w hI
  refine pu (iv (codeI (plotB pl) 13)) (by kernel_rfl) (seq_nil (wp_ret ?_))
  have hI := hI.nilRow 33
  have hI := hI.nilRow 31
  have hI := hI.nilRow 30
  have e : standsF pl xx = (zeroPl, codeI (plotB pl) 13) := by rw [standsF, if_neg (by rw [codeI_no h1]; simp), codeI_no h1]; rfl
  exact ⟨.tuple #[.agg #[iv 0, iv 0, .slice none 0 0, .slice none 0 0, .slice none 0 0, iv 0], iv (codeI (plotB pl) 13)], Ret.ct rfl rfl (run_loadK hI 3 6 [iv 0, iv 0, .slice none 0 0, .slice none 0 0, .slice none 0 0, iv 0] Tryz.isAgg28 Tryz.sizeOf28 rfl rfl rfl) rfl, (by rw [e]; exact ⟨.agg #[iv 0, iv 0, .slice none 0 0, .slice none 0 0, .slice none 0 0, iv 0], rfl, ⟨none, 0, [], none, 0, [], none, 0, [], rfl, hI.pickL [0, 1, 2] (by decide) rfl, Row.nil_ 6, Row.nil_ 6, Row.nil_ 6⟩⟩)⟩
 ·intro h2
  refine seq_nil (wp_condF rfl (wp_skip (wp_seq (wp_seq (rgn (by kernel_rfl) (seq_c (s_loadK hI 1 6 [iv xx.src, iv xx.hr, iv xx.lo, iv xx.hi, iv xx.kn, iv xx.un] Tryz.isAgg31 Tryz.sizeOf31 rfl rfl rfl rfl ?_)))))))
  refine seq_c (s_callv hI 26 [.agg #[iv xx.src, iv xx.hr, iv xx.lo, iv xx.hi, iv xx.kn, iv xx.un]] (iv (codeI (loadB xx.src xx.hr xx.lo xx.hi xx.kn xx.un) 11)) (by kernel_rfl) (CheckStand_c xx.src xx.hr xx.lo xx.hi xx.kn xx.un _) ?_)
  intro w hI
  refine seq_c (s_neq rfl rfl ?_ ?_)
  ·intro h3
   refine pu (.bool true) (by kernel_rfl) (of_ (by kernel_rfl) (of_ (by kernel_rfl) (of_ (by kernel_rfl) (of_ (by kernel_rfl) (pu (.bool true) (by kernel_rfl) (seq_nil (wp_condT rfl (wp_seq (rgn (by kernel_rfl) ?_)))))))))
   refine pu (.agg #[iv 0, iv 0, .slice none 0 0, .slice none 0 0, .slice none 0 0, iv 0]) (by kernel_rfl) (seq_c (s_store hI 0 6 [iv 0, iv 0, .slice none 0 0, .slice none 0 0, .slice none 0 0, iv 0] Tryz.sizeOf28 rfl rfl rfl rfl rfl (Nat.le_of_ble_eq_true rfl) ?_))
   intro w hI
   refine pu (iv 11) (by kernel_rfl) (seq_nil (wp_ret ?_))
   have hI := hI.nilRow 33
   have hI := hI.nilRow 31
   have hI := hI.nilRow 30
   have e : standsF pl xx = (zeroPl, 11) := by rw [standsF, if_pos (codeI_ok h2 (by decide)), if_neg (by first | exact (fun h => absurd h.1 (by assumption)) | exact (fun h => absurd (h.2.symm.trans (by assumption)) (by decide)))]
   exact ⟨.tuple #[.agg #[iv 0, iv 0, .slice none 0 0, .slice none 0 0, .slice none 0 0, iv 0], iv 11], Ret.ct rfl rfl (run_loadK hI 3 6 [iv 0, iv 0, .slice none 0 0, .slice none 0 0, .slice none 0 0, iv 0] Tryz.isAgg28 Tryz.sizeOf28 rfl rfl rfl) rfl, (by rw [e]; exact ⟨.agg #[iv 0, iv 0, .slice none 0 0, .slice none 0 0, .slice none 0 0, iv 0], rfl, ⟨none, 0, [], none, 0, [], none, 0, [], rfl, hI.pickL [0, 1, 2] (by decide) rfl, Row.nil_ 6, Row.nil_ 6, Row.nil_ 6⟩⟩)⟩
  ·intro h4
   refine pu (.bool false) (by kernel_rfl) (seq_on (by kernel_rfl) (s_loadK hI 2 6 [iv pl.lo, iv pl.hi, .slice pA1 pn1 pc1, .slice pA2 pn2 pc2, .slice pA3 pn3 pc3, iv pl.geese] Tryz.isAgg28 Tryz.sizeOf28 rfl rfl rfl rfl ?_))
   refine puo (.pointer (some ⟨b2, 0, none⟩)) ⟨(by kernel_rfl), (by kernel_rfl)⟩ (seq_on (by kernel_rfl) (s_load1 hI 1 (iv xx.src) Tryz.isAgg3 rfl rfl rfl ?_))
   have hsm := plotB_small (codeI_ok h2 (by decide)); have hs1 := hsm.s1; have hs2 := hsm.s2; have hs3 := hsm.s3
   refine seq_on (by kernel_rfl) (s_callb hI 61 [.agg #[iv pl.lo, iv pl.hi, .slice pA1 pn1 pc1, .slice pA2 pn2 pc2, .slice pA3 pn3 pc3, iv pl.geese], iv xx.src] (hasB pl xx.src) (by kernel_rfl) (hasSource_c _ pl pA1 pn1 pc1 pA2 pn2 pc2 pA3 pn3 pc3 (hP.inv0 hI) (plotB_small (codeI_ok h2 (by decide))) xx.src) ?_ ?_)
   ·intro h5 w hI
    refine pu (.bool true) (by kernel_rfl) (seq_nil (wp_condT rfl (wp_seq (rgn (by kernel_rfl) (pu (.agg #[iv 0, iv 0, .slice none 0 0, .slice none 0 0, .slice none 0 0, iv 0]) (by kernel_rfl) (seq_c (s_store hI 0 6 [iv 0, iv 0, .slice none 0 0, .slice none 0 0, .slice none 0 0, iv 0] Tryz.sizeOf28 rfl rfl rfl rfl rfl (Nat.le_of_ble_eq_true rfl) ?_)))))))
    intro w hI
    refine pu (iv 11) (by kernel_rfl) (seq_nil (wp_ret ?_))
    have hI := hI.nilRow 33
    have hI := hI.nilRow 31
    have hI := hI.nilRow 30
    have e : standsF pl xx = (zeroPl, 11) := by rw [standsF, if_pos (codeI_ok h2 (by decide)), if_neg (by first | exact (fun h => absurd h.1 (by assumption)) | exact (fun h => absurd (h.2.symm.trans (by assumption)) (by decide)))]
    exact ⟨.tuple #[.agg #[iv 0, iv 0, .slice none 0 0, .slice none 0 0, .slice none 0 0, iv 0], iv 11], Ret.ct rfl rfl (run_loadK hI 3 6 [iv 0, iv 0, .slice none 0 0, .slice none 0 0, .slice none 0 0, iv 0] Tryz.isAgg28 Tryz.sizeOf28 rfl rfl rfl) rfl, (by rw [e]; exact ⟨.agg #[iv 0, iv 0, .slice none 0 0, .slice none 0 0, .slice none 0 0, iv 0], rfl, ⟨none, 0, [], none, 0, [], none, 0, [], rfl, hI.pickL [0, 1, 2] (by decide) rfl, Row.nil_ 6, Row.nil_ 6, Row.nil_ 6⟩⟩)⟩
   ·intro h6 w hI
    refine pu (.bool false) (by kernel_rfl) (seq_nil (wp_condF rfl (wp_skip (wp_seq (wp_seq (rgn (by kernel_rfl) (pu (.pointer (some ⟨b1, 3, none⟩)) (by kernel_rfl) (seq_c (s_load1 hI 2 (.slice pA2 pn2 pc2) Tryz.isAgg25 rfl rfl rfl ?_)))))))))
    refine pu (iv ((pn2 : Nat) : Int)) (by kernel_rfl) (seq_c (s_eql rfl rfl ?_ ?_))
    ·intro h7
     refine seq_nil (wp_condT rfl (wp_seq (rgn (by kernel_rfl) (pu (.agg #[iv 0, iv 0, .slice none 0 0, .slice none 0 0, .slice none 0 0, iv 0]) (by kernel_rfl) (seq_c (s_store hI 0 6 [iv 0, iv 0, .slice none 0 0, .slice none 0 0, .slice none 0 0, iv 0] Tryz.sizeOf28 rfl rfl rfl rfl rfl (Nat.le_of_ble_eq_true rfl) ?_))))))
     intro w hI
     refine pu (iv 2) (by kernel_rfl) (seq_nil (wp_ret ?_))
     have hI := hI.nilRow 33
     have hI := hI.nilRow 31
     have hI := hI.nilRow 30
     have e : standsF pl xx = (zeroPl, 2) := by rw [standsF, if_pos (codeI_ok h2 (by decide)), if_pos ⟨by assumption, by assumption⟩, if_pos (by omega)]
     exact ⟨.tuple #[.agg #[iv 0, iv 0, .slice none 0 0, .slice none 0 0, .slice none 0 0, iv 0], iv 2], Ret.ct rfl rfl (run_loadK hI 3 6 [iv 0, iv 0, .slice none 0 0, .slice none 0 0, .slice none 0 0, iv 0] Tryz.isAgg28 Tryz.sizeOf28 rfl rfl rfl) rfl, (by rw [e]; exact ⟨.agg #[iv 0, iv 0, .slice none 0 0, .slice none 0 0, .slice none 0 0, iv 0], rfl, ⟨none, 0, [], none, 0, [], none, 0, [], rfl, hI.pickL [0, 1, 2] (by decide) rfl, Row.nil_ 6, Row.nil_ 6, Row.nil_ 6⟩⟩)⟩
    ·intro h8
     refine seq_nil (wp_condF rfl (wp_skip (wp_seq (rgn (by kernel_rfl) (seq_c (s_loadK hI 2 6 [iv pl.lo, iv pl.hi, .slice pA1 pn1 pc1, .slice pA2 pn2 pc2, .slice pA3 pn3 pc3, iv pl.geese] Tryz.isAgg28 Tryz.sizeOf28 rfl rfl rfl rfl ?_))))))
     refine seq_c (s_callPlot hI (q := pl) 62 [.agg #[iv pl.lo, iv pl.hi, .slice pA1 pn1 pc1, .slice pA2 pn2 pc2, .slice pA3 pn3 pc3, iv pl.geese]] (by kernel_rfl) (copyOf_c _ pl pA1 pn1 pc1 pA2 pn2 pc2 pA3 pn3 pc3 (hP.inv0 hI) (Small.mk (by omega) (by omega) (by omega))) ?_)
     intro g4 c5 cl6 g8 c9 cl10 g12 c13 cl14 w hI r7 r11 r15
     refine seq_c (s_allocI hI [iv 0, iv 0, .slice none 0 0, .slice none 0 0, .slice none 0 0, iv 0] Tryz.zeroValue28 rfl ?_)
     intro b16 w hI
     refine seq_c (s_store hI 0 6 [iv pl.lo, iv pl.hi, slv g4 pl.loads.length c5, slv g8 pl.stands.length c9, slv g12 pl.spells.length c13, iv pl.geese] Tryz.sizeOf28 rfl rfl rfl rfl rfl (Nat.le_of_ble_eq_true rfl) ?_)
     intro w hI
     refine seq_nil (wp_seq (rgn (by kernel_rfl) (pu (iv 0) (by kernel_rfl) (seq_nil (wp_seq (wp_block ?_))))))
     refine wp_loop (fun m ρ w => ∃ (k : Nat), Agree ρ [(2, .pointer (some ⟨b1, 0, none⟩)), (3, .pointer (some ⟨b2, 0, none⟩)), (4, .pointer (some ⟨b3, 0, none⟩)), (7, .pointer (some ⟨b16, 0, none⟩)), (8, iv (k : Int))] ∧ Inv none w0 w [(some b16, blk [iv pl.lo, iv pl.hi, slv g4 pl.loads.length c5, slv g8 pl.stands.length c9, slv g12 pl.spells.length c13, iv pl.geese] 28), (g4, blk cl6 30), (g8, blk cl10 31), (g12, blk cl14 33), (some b3, blk [iv 0, iv 0, .slice none 0 0, .slice none 0 0, .slice none 0 0, iv 0] 28), (some b2, blk [iv xx.src, iv xx.hr, iv xx.lo, iv xx.hi, iv xx.kn, iv xx.un] 31), (some b1, blk [iv pl.lo, iv pl.hi, .slice pA1 pn1 pc1, .slice pA2 pn2 pc2, .slice pA3 pn3 pc3, iv pl.geese] 28)] ∧ (k ≤ pn2) ∧ (∀ i y, i < k → pl.stands[i]? = some y → y.src < xx.src) ∧ m = pn2 - k) (m := pn2 - 0) ⟨0, ⟨rfl, rfl, rfl, rfl, rfl, trivial⟩, hI.pickL [0, 1, 2, 3, 4, 5, 6] (by decide) rfl, (by omega), (fun i y h => absurd h (by omega)), rfl⟩ ?_
     rintro m ρ w ⟨k, hag, hI, hk, hin, hm⟩
     obtain ⟨ρ, rfl⟩ := hag.form; clear hag
     refine wp_seq (wp_seq (wp_drawn2 hI [0, 1, 2, 3, 4, 5, 6] (by decide) rfl (by kernel_rfl) (by kernel_rfl) ?_))
     intro hsub
     refine alp 0 (iv (k : Int)) hsub rfl (by kernel_rfl) (fun _ => (by kernel_rfl)) ?_
     refine alp 1 (.pointer (some ⟨b1, 3, none⟩)) hsub rfl (by kernel_rfl) (fun _ => (by kernel_rfl)) ?_
     refine al_light 2 (.slice pA2 pn2 pc2) hsub rfl (by kernel_rfl) (fun w hI => s_load1 hI 6 (.slice pA2 pn2 pc2) Tryz.isAgg25 rfl rfl rfl ⟨rfl, Below.refl _ _⟩) ?_
     refine al_light 3 (iv (pn2 : Int)) hsub rfl (by kernel_rfl) (fun w hI => s_pure (iv ((pn2 : Nat) : Int)) (by kernel_rfl) ⟨rfl, Below.refl _ _⟩) ?_
     by_cases h9 : (k : Int) < (pn2 : Int)
     ·refine al_light 4 (.bool true) hsub rfl (by kernel_rfl) (fun w hI => s_lss rfl rfl (fun _ => ⟨rfl, Below.refl _ _⟩) (fun h => absurd h9 h)) ?_
      refine alp 5 (.bool true) hsub rfl (by kernel_rfl) (fun _ => (by kernel_rfl)) ?_
      refine al_on 6 (.pointer (some ⟨b1, 3, none⟩)) hsub rfl (by kernel_rfl) (by kernel_rfl) (fun w hI => s_pure (.pointer (some ⟨b1, 3, none⟩)) (by kernel_rfl) ⟨rfl, Below.refl _ _⟩) ?_
      refine al_on 7 (.slice pA2 pn2 pc2) hsub rfl (by kernel_rfl) (by kernel_rfl) (fun w hI => s_load1 hI 6 (.slice pA2 pn2 pc2) Tryz.isAgg25 rfl rfl rfl ⟨rfl, Below.refl _ _⟩) ?_
      refine al_on 8 (iv (k : Int)) hsub rfl (by kernel_rfl) (by kernel_rfl) (fun w hI => s_pure (iv (k : Int)) (by kernel_rfl) ⟨rfl, Below.refl _ _⟩) ?_
      obtain ⟨x17, hx18⟩ := get_lt (l := pl.stands) (i := k) (by omega)
      obtain ⟨b19, o20, hA21, hb22, he23⟩ := hP.c2.at_ eLd_len (by decide) hx18
      refine al_on 9 (.pointer (some ⟨b19, o20 + k * 6, none⟩)) hsub rfl (by kernel_rfl) (by kernel_rfl) (fun w hI => s_indexA k Tryz.underlying25 Tryz.sizeOf31 rfl hA21 rfl rfl (by omega) ⟨rfl, Below.refl _ _⟩) ?_
      refine al_on 10 (.pointer (some ⟨b19, o20 + k * 6, none⟩)) hsub rfl (by kernel_rfl) (by kernel_rfl) (fun w hI => s_pure (.pointer (some ⟨b19, o20 + k * 6, none⟩)) (by kernel_rfl) ⟨rfl, Below.refl _ _⟩) ?_
      refine al_on 11 (iv x17.src) hsub rfl (by kernel_rfl) (by kernel_rfl) (fun w hI => s_loadB1 hI (iv x17.src) Tryz.isAgg3 rfl hb22 (by simp) (he23 0 _ rfl) ⟨rfl, Below.refl _ _⟩) ?_
      refine al_on 12 (.pointer (some ⟨b2, 0, none⟩)) hsub rfl (by kernel_rfl) (by kernel_rfl) (fun w hI => s_pure (.pointer (some ⟨b2, 0, none⟩)) (by kernel_rfl) ⟨rfl, Below.refl _ _⟩) ?_
      refine al_on 13 (iv xx.src) hsub rfl (by kernel_rfl) (by kernel_rfl) (fun w hI => s_load1 hI 5 (iv xx.src) Tryz.isAgg3 rfl rfl rfl ⟨rfl, Below.refl _ _⟩) ?_
      by_cases h10 : x17.src < xx.src
      ·refine al_on 14 (.bool true) hsub rfl (by kernel_rfl) (by kernel_rfl) (fun w hI => s_lss rfl rfl (fun _ => ⟨rfl, Below.refl _ _⟩) (fun h => absurd h10 h)) ?_
       refine alp 15 (.bool true) hsub rfl (by kernel_rfl) (fun _ => (by kernel_rfl)) ?_
       refine any_end (by kernel_rfl) (fun w hI => ?_)
       refine wp_condT rfl (wp_skip (wp_block ?_))
       refine rgn (by kernel_rfl) (pu (iv (k : Int)) (by kernel_rfl) (seq_c (s_add rfl rfl (by omega) ?_)))
       refine pu (iv ((k : Int) + 1)) (by kernel_rfl) (seq_nil ?_)
       exact ⟨rfl, _, (by omega), ⟨k + 1, ⟨rfl, rfl, rfl, rfl, rfl, trivial⟩, hI.pickL [0, 1, 2, 3, 4, 5, 6] (by decide) rfl, (by omega), (all_step (Q := fun _ y => y.src < xx.src) hin hx18 (by assumption)), rfl⟩⟩
      ·refine al_on 14 (.bool false) hsub rfl (by kernel_rfl) (by kernel_rfl) (fun w hI => s_lss rfl rfl (fun h => absurd h h10) (fun _ => ⟨rfl, Below.refl _ _⟩)) ?_
       refine alp 15 (.bool false) hsub rfl (by kernel_rfl) (fun _ => (by kernel_rfl)) ?_
       refine any_end (by kernel_rfl) (fun w hI => ?_)
       refine wp_condF rfl (wp_exit ?_)
       refine wp_seq (rgn (by kernel_rfl) (pu (.pointer (some ⟨b16, 3, none⟩)) (by kernel_rfl) (seq_c (s_load1 hI 0 (slv g8 pl.stands.length c9) Tryz.isAgg25 rfl rfl rfl ?_))))
       refine pu (iv (k : Int)) (by kernel_rfl) (seq_c (s_loadK hI 5 6 [iv xx.src, iv xx.hr, iv xx.lo, iv xx.hi, iv xx.kn, iv xx.un] Tryz.isAgg31 Tryz.sizeOf31 rfl rfl rfl rfl ?_))
       refine seq_c (s_new hI [iv xx.src, iv xx.hr, iv xx.lo, iv xx.hi, iv xx.kn, iv xx.un] 31 (fun b => slv (some b) 1 1) (by kernel_rfl) ?_)
       intro b24 w hI
       refine seq_c (s_callGives hI 63 [slv g8 pl.stands.length c9, iv (k : Int), .slice (some ⟨b24, 0, none⟩) 1 1] 3 rfl (by kernel_rfl) (Insert_c _ g8 pl.stands.length c9 cl10 pl.stands k b24 xx (hI.hasg 3 rfl) r11 (by omega) (by omega) (hI.has 0 _ _ rfl).1 (hI.ne 3 0 (by decide) rfl rfl)) ?_)
       intro g25 c26 cl27 w hI r28
       have r28 : Row 6 g25 (pl.stands.length + 1) c26 cl27 (flat eLd (pl.stands.take k ++ [xx] ++ pl.stands.drop k)) := r28
       refine pu (.pointer (some ⟨b16, 3, none⟩)) (by kernel_rfl) (seq_c (s_store hI 2 1 [slv g25 (pl.stands.length + 1) c26] Tryz.sizeOf25 rfl rfl rfl rfl rfl (Nat.le_of_ble_eq_true rfl) ?_))
       intro w hI
       refine seq_nil (wp_seq (rgn (by kernel_rfl) (seq_c (s_loadK hI 2 6 [iv pl.lo, iv pl.hi, slv g4 pl.loads.length c5, slv g25 (pl.stands.length + 1) c26, slv g12 pl.spells.length c13, iv pl.geese] Tryz.isAgg28 Tryz.sizeOf28 rfl rfl rfl rfl ?_))))
       refine seq_c (s_store hI 6 6 [iv pl.lo, iv pl.hi, slv g4 pl.loads.length c5, slv g25 (pl.stands.length + 1) c26, slv g12 pl.spells.length c13, iv pl.geese] Tryz.sizeOf28 rfl rfl rfl rfl rfl (Nat.le_of_ble_eq_true rfl) ?_)
       intro w hI
       refine pu (iv 0) (by kernel_rfl) (seq_nil (wp_ret ?_))
       have hins : insAt xx pl.stands = pl.stands.take k ++ [xx] ++ pl.stands.drop k := insAt_at _ _ hin (fun y hy => by have e := Option.some.inj (hy.symm.trans hx18); rw [e]; assumption) (by omega)
       have hln : pl.stands.length + 1 = (insAt xx pl.stands).length := by rw [hins]; simp; omega
       have e : standsF pl xx = ({ pl with stands := insAt xx pl.stands }, 0) := by rw [standsF, if_pos (codeI_ok h2 (by decide)), if_pos ⟨by assumption, by assumption⟩, if_neg (by omega)]
       exact ⟨.tuple #[.agg #[iv pl.lo, iv pl.hi, slv g4 pl.loads.length c5, slv g25 (pl.stands.length + 1) c26, slv g12 pl.spells.length c13, iv pl.geese], iv 0], Ret.ct rfl rfl (run_loadK hI 6 6 [iv pl.lo, iv pl.hi, slv g4 pl.loads.length c5, slv g25 (pl.stands.length + 1) c26, slv g12 pl.spells.length c13, iv pl.geese] Tryz.isAgg28 Tryz.sizeOf28 rfl rfl rfl) rfl, (by rw [e]; exact ⟨.agg #[iv pl.lo, iv pl.hi, slv g4 pl.loads.length c5, slv g25 (pl.stands.length + 1) c26, slv g12 pl.spells.length c13, iv pl.geese], rfl, g4, c5, cl6, g25, c26, cl27, g12, c13, cl14, (by rw [hln]; rfl), hI.pickL [3, 0, 5] (by decide) rfl, r7, (r28.to (by simp [hins]) hln), r15⟩)⟩
     ·refine al_light 4 (.bool false) hsub rfl (by kernel_rfl) (fun w hI => s_lss rfl rfl (fun h => absurd h h9) (fun _ => ⟨rfl, Below.refl _ _⟩)) ?_
      refine alp 5 (.bool false) hsub rfl (by kernel_rfl) (fun _ => (by kernel_rfl)) ?_
      refine al_off 6 hsub rfl (by kernel_rfl) (by kernel_rfl) ?_
      refine al_off 7 hsub rfl (by kernel_rfl) (by kernel_rfl) ?_
      refine al_off 8 hsub rfl (by kernel_rfl) (by kernel_rfl) ?_
      refine al_off 9 hsub rfl (by kernel_rfl) (by kernel_rfl) ?_
      refine al_off 10 hsub rfl (by kernel_rfl) (by kernel_rfl) ?_
      refine al_off 11 hsub rfl (by kernel_rfl) (by kernel_rfl) ?_
      refine al_off 12 hsub rfl (by kernel_rfl) (by kernel_rfl) ?_
      refine al_off 13 hsub rfl (by kernel_rfl) (by kernel_rfl) ?_
      refine al_off 14 hsub rfl (by kernel_rfl) (by kernel_rfl) ?_
      refine alp 15 (.bool false) hsub rfl (by kernel_rfl) (fun _ => (by kernel_rfl)) ?_
      refine any_end (by kernel_rfl) (fun w hI => ?_)
      refine wp_condF rfl (wp_exit ?_)
      refine wp_seq (rgn (by kernel_rfl) (pu (.pointer (some ⟨b16, 3, none⟩)) (by kernel_rfl) (seq_c (s_load1 hI 0 (slv g8 pl.stands.length c9) Tryz.isAgg25 rfl rfl rfl ?_))))
      refine pu (iv (k : Int)) (by kernel_rfl) (seq_c (s_loadK hI 5 6 [iv xx.src, iv xx.hr, iv xx.lo, iv xx.hi, iv xx.kn, iv xx.un] Tryz.isAgg31 Tryz.sizeOf31 rfl rfl rfl rfl ?_))
      refine seq_c (s_new hI [iv xx.src, iv xx.hr, iv xx.lo, iv xx.hi, iv xx.kn, iv xx.un] 31 (fun b => slv (some b) 1 1) (by kernel_rfl) ?_)
      intro b29 w hI
      refine seq_c (s_callGives hI 63 [slv g8 pl.stands.length c9, iv (k : Int), .slice (some ⟨b29, 0, none⟩) 1 1] 3 rfl (by kernel_rfl) (Insert_c _ g8 pl.stands.length c9 cl10 pl.stands k b29 xx (hI.hasg 3 rfl) r11 (by omega) (by omega) (hI.has 0 _ _ rfl).1 (hI.ne 3 0 (by decide) rfl rfl)) ?_)
      intro g30 c31 cl32 w hI r33
      have r33 : Row 6 g30 (pl.stands.length + 1) c31 cl32 (flat eLd (pl.stands.take k ++ [xx] ++ pl.stands.drop k)) := r33
      refine pu (.pointer (some ⟨b16, 3, none⟩)) (by kernel_rfl) (seq_c (s_store hI 2 1 [slv g30 (pl.stands.length + 1) c31] Tryz.sizeOf25 rfl rfl rfl rfl rfl (Nat.le_of_ble_eq_true rfl) ?_))
      intro w hI
      refine seq_nil (wp_seq (rgn (by kernel_rfl) (seq_c (s_loadK hI 2 6 [iv pl.lo, iv pl.hi, slv g4 pl.loads.length c5, slv g30 (pl.stands.length + 1) c31, slv g12 pl.spells.length c13, iv pl.geese] Tryz.isAgg28 Tryz.sizeOf28 rfl rfl rfl rfl ?_))))
      refine seq_c (s_store hI 6 6 [iv pl.lo, iv pl.hi, slv g4 pl.loads.length c5, slv g30 (pl.stands.length + 1) c31, slv g12 pl.spells.length c13, iv pl.geese] Tryz.sizeOf28 rfl rfl rfl rfl rfl (Nat.le_of_ble_eq_true rfl) ?_)
      intro w hI
      refine pu (iv 0) (by kernel_rfl) (seq_nil (wp_ret ?_))
      have hins : insAt xx pl.stands = pl.stands.take k ++ [xx] ++ pl.stands.drop k := insAt_at _ _ hin (fun y hy => by have := lt_of_get hy; omega) (by omega)
      have hln : pl.stands.length + 1 = (insAt xx pl.stands).length := by rw [hins]; simp; omega
      have e : standsF pl xx = ({ pl with stands := insAt xx pl.stands }, 0) := by rw [standsF, if_pos (codeI_ok h2 (by decide)), if_pos ⟨by assumption, by assumption⟩, if_neg (by omega)]
      exact ⟨.tuple #[.agg #[iv pl.lo, iv pl.hi, slv g4 pl.loads.length c5, slv g30 (pl.stands.length + 1) c31, slv g12 pl.spells.length c13, iv pl.geese], iv 0], Ret.ct rfl rfl (run_loadK hI 6 6 [iv pl.lo, iv pl.hi, slv g4 pl.loads.length c5, slv g30 (pl.stands.length + 1) c31, slv g12 pl.spells.length c13, iv pl.geese] Tryz.isAgg28 Tryz.sizeOf28 rfl rfl rfl) rfl, (by rw [e]; exact ⟨.agg #[iv pl.lo, iv pl.hi, slv g4 pl.loads.length c5, slv g30 (pl.stands.length + 1) c31, slv g12 pl.spells.length c13, iv pl.geese], rfl, g4, c5, cl6, g30, c31, cl32, g12, c13, cl14, (by rw [hln]; rfl), hI.pickL [3, 0, 5] (by decide) rfl, r7, (r33.to (by simp [hins]) hln), r15⟩)⟩

end Go.K
