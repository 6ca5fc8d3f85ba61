/- That the functions do what the pure definitions say: walks, as tools/lift.py writes them. No condition. -/
import Derived.Test.YtofnbcfjdngakaaPWd
namespace Go.K
open Go.Proofs Go.RowKit
set_option linter.unusedVariables false
set_option linter.unusedSimpArgs false
set_option maxRecDepth 100000
attribute [local irreducible] Seq Step CallV AnyE opX
theorem L13 (w0 : World) (p0 : Int) (Ap1 : Option Addr) (cp1 : Nat) (lp1 : List A2) (Ap2 : Option Addr) (cp2 : Nat) (lp2 : List Int) (hCp1 : Cells w0 Ap1 (flat eA2 lp1)) (hMp1 : lp1.length ≤ 9223372036854775807) (hKp1 : lp1.length ≤ cp1) (hCp2 : Cells w0 Ap2 (flat eInt lp2)) (hMp2 : lp2.length ≤ 9223372036854775807) (hKp2 : lp2.length ≤ cp2) (N : Nat) (r : Bool) (hF : F13 N p0 lp1 lp2 = some r) : Does Try.prog 13 [.int .i64 p0, .slice Ap1 lp1.length cp1, .slice Ap2 lp2.length cp2] w0 fun v w => v = .bool r ∧ Below w0.heap.size w0 w := by
 refine calls_of (n := 249) Try.func13 rfl Try.ntmps13 rfl ?_
 have hI := Inv.start w0
 unfold F13 at hF
 refine wp_seq (rgn (by kernel_rfl) (pu (.bool false) (by kernel_rfl) (seq_nil (wp_seq (rgn (by kernel_rfl) (pu (iv p0) (by kernel_rfl) (pu (.slice Ap1 lp1.length cp1) (by kernel_rfl) (bindE hF (fun y12463 hy12464 hF => ?_)))))))))
 refine seq_c (s_call 60 [iv p0, .slice Ap1 lp1.length cp1] (by kernel_rfl) (L60 _ p0 Ap1 cp1 lp1 (hCp1.inv0 hI) hMp1 hKp1 N _ hy12464) ?_)
 rintro v w ⟨g12465, c12466, cl12467, rfl, hN, r12468⟩
 have hI := hI.join hN; clear hN
 refine seq_c (s_allocI hI [iv 0, .slice none 0 0] Try.zeroValue24 rfl ?_)
 intro b12469 w hI
 refine seq_c (s_store hI 0 2 [iv y12463.1, slv g12465 y12463.2.length c12466] Try.sizeOf24 rfl rfl rfl rfl rfl (Nat.le_of_ble_eq_true rfl) ?_)
 intro w hI
 refine seq_nil (wp_seq (rgn (by kernel_rfl) (seq_c (s_loadK hI 0 2 [iv y12463.1, slv g12465 y12463.2.length c12466] Try.isAgg24 Try.sizeOf24 rfl rfl rfl rfl ?_))))
 refine bindE hF (fun y12476 hy12477 hF => ?_)
 refine seq_c (s_call 40 [.agg #[iv y12463.1, slv g12465 y12463.2.length c12466]] (by kernel_rfl) (L40 _ y12463.1 (g12465.map fun b => ⟨b, 0, none⟩) c12466 y12463.2 (hI.rowCells 1 rfl r12468) (len_le rfl r12468.big) (len_le rfl r12468.cap) N _ hy12477) ?_)
 rintro v w ⟨g12478, c12479, cl12480, rfl, hN, r12481⟩
 have hI := hI.join hN; clear hN
 refine pu (.tuple #[slv g12478 y12476.1.length c12479, iv y12476.2]) (by kernel_rfl) (pu (slv g12478 y12476.1.length c12479) (by kernel_rfl) (pu (iv y12476.2) (by kernel_rfl) (pu (slv g12478 y12476.1.length c12479) (by kernel_rfl) (pu (iv y12476.2) (by kernel_rfl) (seq_nil (wp_seq (rgn (by kernel_rfl) (seq_c (s_loadK hI 1 2 [iv y12463.1, slv g12465 y12463.2.length c12466] Try.isAgg24 Try.sizeOf24 rfl rfl rfl rfl ?_)))))))))
 refine bindE hF (fun y12488 hy12489 hF => ?_)
 refine seq_c (s_call 55 [.agg #[iv y12463.1, slv g12465 y12463.2.length c12466]] (by kernel_rfl) (L55 _ y12463.1 (g12465.map fun b => ⟨b, 0, none⟩) c12466 y12463.2 (hI.rowCells 2 rfl r12468) (len_le rfl r12468.big) (len_le rfl r12468.cap) N _ hy12489) ?_)
 rintro v w ⟨g12490, c12491, cl12492, rfl, hN, r12493⟩
 have hI := hI.join hN; clear hN
 refine pu (.tuple #[slv g12490 y12488.1.length c12491, iv y12488.2]) (by kernel_rfl) (pu (slv g12490 y12488.1.length c12491) (by kernel_rfl) (pu (iv y12488.2) (by kernel_rfl) (pu (slv g12490 y12488.1.length c12491) (by kernel_rfl) (pu (iv y12488.2) (by kernel_rfl) (seq_nil (wp_seq (rgn (by kernel_rfl) (seq_c (s_loadK hI 2 2 [iv y12463.1, slv g12465 y12463.2.length c12466] Try.isAgg24 Try.sizeOf24 rfl rfl rfl rfl ?_)))))))))
 refine bindE hF (fun y12500 hy12501 hF => ?_)
 refine seq_c (s_call 38 [.agg #[iv y12463.1, slv g12465 y12463.2.length c12466]] (by kernel_rfl) (L38 _ y12463.1 (g12465.map fun b => ⟨b, 0, none⟩) c12466 y12463.2 (hI.rowCells 3 rfl r12468) (len_le rfl r12468.big) (len_le rfl r12468.cap) N _ hy12501) ?_)
 rintro v w ⟨g12502, c12503, cl12504, rfl, hN, r12505⟩
 have hI := hI.join hN; clear hN
 refine pu (.tuple #[slv g12502 y12500.1.length c12503, iv y12500.2]) (by kernel_rfl) (pu (slv g12502 y12500.1.length c12503) (by kernel_rfl) (pu (iv y12500.2) (by kernel_rfl) (pu (slv g12502 y12500.1.length c12503) (by kernel_rfl) (pu (iv y12500.2) (by kernel_rfl) (seq_nil (wp_seq (wp_seq (rgn (by kernel_rfl) (pu (iv y12476.2) (by kernel_rfl) ?_)))))))))
 refine ifE hF (fun h5299 hF => ?_) (fun h5299 hF => ?_)
 ·
  refine seq_c (s_neq rfl rfl (fun h => absurd (a := y12476.2 = 0) h5299 h) (fun _ => ?_))
  refine pu (.bool false) (by kernel_rfl) (puo (iv y12488.2) ⟨(by kernel_rfl), (by kernel_rfl)⟩ (ifE hF (fun h5300 hF => ?_) (fun h5300 hF => ?_)))
  ·
   refine seq_on (by kernel_rfl) (s_neq rfl rfl (fun h => absurd (a := y12488.2 = 0) h5300 h) (fun _ => ?_))
   refine pu (.bool false) (by kernel_rfl) (pu (.bool false) (by kernel_rfl) (puo (iv y12500.2) ⟨(by kernel_rfl), (by kernel_rfl)⟩ (ifE hF (fun h5301 hF => ?_) (fun h5301 hF => ?_))))
   ·
    refine seq_on (by kernel_rfl) (s_neq rfl rfl (fun h => absurd (a := y12500.2 = 0) h5301 h) (fun _ => ?_))
    refine pu (.bool false) (by kernel_rfl) (pu (.bool false) (by kernel_rfl) (puo (slv g12478 y12476.1.length c12479) ⟨(by kernel_rfl), (by kernel_rfl)⟩ (puo (iv ((y12476.1.length : Nat) : Int)) ⟨(by kernel_rfl), (by kernel_rfl)⟩ (puo (.pointer (some ⟨b12469, 0, none⟩)) ⟨(by kernel_rfl), (by kernel_rfl)⟩ (seq_on (by kernel_rfl) (s_load1 hI 3 (iv y12463.1) Try.isAgg3 rfl rfl rfl ?_))))))
    refine ifE hF (fun h5302 hF => ?_) (fun h5302 hF => ?_)
    ·
     refine seq_on (by kernel_rfl) (s_neq rfl rfl (fun h => absurd (a := (y12476.1.length : Int) = y12463.1) h5302 h) (fun _ => ?_))
     refine pu (.bool false) (by kernel_rfl) (seq_nil (wp_condF rfl (wp_skip (wp_seq (rgn (by kernel_rfl) (seq_c (s_new hI [] 3 (fun b => slv (some b) 0 0) (by kernel_rfl) ?_)))))))
     intro b12511 w hI
     refine pu (slv g12478 y12476.1.length c12479) (by kernel_rfl) (gdE hF (fun h5304 hF => ?_))
     refine seq_c (s_appN hI Try.underlying49 (z := iv 0) (k := 1) (bytes := 8) (by kernel_rfl) rfl rfl 0 rfl rfl (Row.zero_ 1 b12511) (flat eInt y12476.1) rfl (flat_len eInt_len _) (hI.rowCells 3 rfl r12481) (flat_cell eInt_cell _) (by omega) (by omega) (n2 := y12476.1.length) (app_len0 rfl) ?_)
     intro g12512 c12513 cl12514 w hI r12515
     have r12515 : Row 1 g12512 y12476.1.length c12513 cl12514 (flat eInt y12476.1) := r12515
     refine pu (slv g12512 y12476.1.length c12513) (by kernel_rfl) (seq_nil (wp_cutO (fun ρ w => ∃ (g13156 : Option Nat) (c13157 : Nat) (cl13158 : List Value) (u13155 : List Int), Agree ρ [(7, .pointer (some ⟨b12469, 0, none⟩)), (10, slv g12490 y12488.1.length c12491), (12, slv g12502 y12500.1.length c12503), (14, slv g13156 u13155.length c13157)] ∧ Inv [] w0 w [(some b12469, blk [iv y12463.1, slv g12465 y12463.2.length c12466] 24), (g12465, blk cl12467 26), (g12490, blk cl12492 3), (g12502, blk cl12504 3), (g13156, blk cl13158 3)] ∧ (Row 1 g13156 (u13155.length) c13157 cl13158 (flat eInt u13155)) ∧ F13j1 N y12463 y12488 y12500 u13155 = some r) ?_ ?_))
     ·
      refine wp_seq (rgn (by kernel_rfl) (pu (iv 0) (by kernel_rfl) (seq_nil (wp_block ?_))))
      refine wp_loop (fun m ρ w => ∃ (g24697 : Option Nat) (c24698 : Nat) (cl24699 : List Value) (u24696 : List Int) (v24701 : Int) (mm : Nat), Agree ρ [(2, .slice Ap2 lp2.length cp2), (7, .pointer (some ⟨b12469, 0, none⟩)), (10, slv g12490 y12488.1.length c12491), (12, slv g12502 y12500.1.length c12503), (14, slv g24697 u24696.length c24698), (15, iv v24701)] ∧ Inv [] w0 w [(some b12469, blk [iv y12463.1, slv g12465 y12463.2.length c12466] 24), (g12465, blk cl12467 26), (g12490, blk cl12492 3), (g12502, blk cl12504 3), (g24697, blk cl24699 3)] ∧ (Row 1 g24697 (u24696.length) c24698 cl24699 (flat eInt u24696)) ∧ F13l19 lp2 N y12463 y12488 y12500 mm u24696 v24701 = some r ∧ mm = m) (m := N) ⟨g12512, c12513, cl12514, y12476.1, 0, N, ⟨rfl, rfl, rfl, rfl, rfl, rfl, trivial⟩, hI.pickL [4, 5, 2, 1, 0] (by decide) rfl, (r12515.to rfl rfl), hF, rfl⟩ ?_
      rintro m ρ w ⟨g24697, c24698, cl24699, u24696, v24701, mm, hag, hI, r24700, hF, hm⟩
      subst hm; obtain ⟨ρ, rfl⟩ := hag.form; clear hag
      obtain _ | m19 := mm
      ·cases (show (none : Option Bool) = some r from hF)
      replace hF : F13b19 lp2 N y12463 y12488 y12500 (F13l19 lp2 N y12463 y12488 y12500 m19) u24696 v24701 = some r := hF; unfold F13b19 at hF
      refine wp_seq (wp_cutO (fun ρ w => Agree ρ [(2, .slice Ap2 lp2.length cp2), (7, .pointer (some ⟨b12469, 0, none⟩)), (10, slv g12490 y12488.1.length c12491), (12, slv g12502 y12500.1.length c12503), (14, slv g24697 u24696.length c24698), (15, iv v24701), (82, .bool false)] ∧ Inv [] w0 w [(some b12469, blk [iv y12463.1, slv g12465 y12463.2.length c12466] 24), (g12465, blk cl12467 26), (g12490, blk cl12492 3), (g12502, blk cl12504 3), (g24697, blk cl24699 3)] ∧ F13j20 N y12463 y12488 y12500 u24696 = some r) ?_ ?_)
      ·
       refine rgn (by kernel_rfl) (pu (iv v24701) (by kernel_rfl) (ckE hF (fun h10544 hF => ?_)))
       refine seq_c (s_add rfl rfl h10544 ?_)
       refine pu (.slice Ap2 lp2.length cp2) (by kernel_rfl) (pu (iv ((lp2.length : Nat) : Int)) (by kernel_rfl) (ifE hF (fun h10545 hF => ?_) (fun h10545 hF => ?_)))
       ·
        refine seq_c (s_lss rfl rfl (fun _ => ?_) (fun h => absurd (a := (v24701 + 1) < (lp2.length : Int)) h10545 h))
        refine pu (.bool true) (by kernel_rfl) (puo (iv v24701) ⟨(by kernel_rfl), (by kernel_rfl)⟩ (ifE hF (fun h10546 hF => ?_) (fun h10546 hF => ?_)))
        ·
         refine seq_on (by kernel_rfl) (s_lss rfl rfl (fun _ => ?_) (fun h => absurd (a := v24701 < 40) h10546 h))
         refine pu (.bool true) (by kernel_rfl) (pu (.bool true) (by kernel_rfl) (puo (slv g24697 u24696.length c24698) ⟨(by kernel_rfl), (by kernel_rfl)⟩ (puo (iv ((u24696.length : Nat) : Int)) ⟨(by kernel_rfl), (by kernel_rfl)⟩ (ifE hF (fun h10547 hF => ?_) (fun h10547 hF => ?_)))))
         ·
          refine seq_on (by kernel_rfl) (s_gtr rfl rfl (fun _ => ?_) (fun h => absurd (a := 0 < (u24696.length : Int)) h10547 h))
          refine pu (.bool true) (by kernel_rfl) (seq_nil (.inr ?_))
          refine wp_condT rfl (wp_skip (wp_cutO (fun ρ w => ∃ (g24805 : Option Nat) (c24806 : Nat) (cl24807 : List Value) (u24804 : List Int), Agree ρ [(2, .slice Ap2 lp2.length cp2), (7, .pointer (some ⟨b12469, 0, none⟩)), (10, slv g12490 y12488.1.length c12491), (12, slv g12502 y12500.1.length c12503), (14, slv g24805 u24804.length c24806), (15, iv v24701)] ∧ Inv [] w0 w [(some b12469, blk [iv y12463.1, slv g12465 y12463.2.length c12466] 24), (g12465, blk cl12467 26), (g12490, blk cl12492 3), (g12502, blk cl12504 3), (g24805, blk cl24807 3)] ∧ (Row 1 g24805 (u24804.length) c24806 cl24807 (flat eInt u24804)) ∧ F13j21 (F13l19 lp2 N y12463 y12488 y12500 m19) v24701 u24804 = some r) ?_ ?_))
          ·
           refine wp_block ?_
           refine wp_seq (rgn (by kernel_rfl) (seq_c (s_new hI [] 3 (fun b => slv (some b) 0 0) (by kernel_rfl) ?_)))
           intro b24814 w hI
           refine pu (slv g24697 u24696.length c24698) (by kernel_rfl) (gdE hF (fun h10562 hF => ?_))
           refine seq_c (s_appN hI Try.underlying49 (z := iv 0) (k := 1) (bytes := 8) (by kernel_rfl) rfl rfl 0 rfl rfl (Row.zero_ 1 b24814) (flat eInt u24696) rfl (flat_len eInt_len _) (hI.rowCells 5 rfl r24700) (flat_cell eInt_cell _) (by omega) (by omega) (n2 := u24696.length) (app_len0 rfl) ?_)
           intro g24815 c24816 cl24817 w hI r24818
           have r24818 : Row 1 g24815 u24696.length c24816 cl24817 (flat eInt u24696) := r24818
           refine pu (slv g24815 u24696.length c24816) (by kernel_rfl) (seq_nil (wp_seq (rgn (by kernel_rfl) (pu (.slice Ap2 lp2.length cp2) (by kernel_rfl) (pu (iv v24701) (by kernel_rfl) (gdE hF (fun h10564 hF => ?_)))))))
           refine bindE hF (fun x24828 hx24829 hF => ?_)
           obtain ⟨b24830, o24831, hA24832, hb24833, he24834⟩ := hCp2.at_ eInt_len (by decide) hx24829
           refine seq_c (s_indexA (v24701).toNat Try.underlying49 Try.sizeOf3 rfl hA24832 rfl (Int.toNat_of_nonneg h10564).symm (lt_n hx24829 rfl) ?_)
           refine seq_c (s_loadB1 hI (iv x24828) Try.isAgg3 rfl hb24833 (by simp) (he24834 0 _ rfl) ?_)
           refine pu (slv g24815 u24696.length c24816) (by kernel_rfl) (pu (iv ((u24696.length : Nat) : Int)) (by kernel_rfl) (bindE hF (fun y24835 hy24836 hF => ?_)))
           refine seq_c (s_callv hI 59 [iv x24828, iv (u24696.length : Int)] (iv y24835) (by kernel_rfl) (L59 _ x24828 (u24696.length : Int) _ hy24836) ?_)
           intro w hI
           refine pu (iv y24835) (by kernel_rfl) (seq_nil (wp_seq (rgn (by kernel_rfl) (pu (.slice Ap2 lp2.length cp2) (by kernel_rfl) (pu (iv v24701) (by kernel_rfl) (seq_c (s_add rfl rfl h10544 ?_)))))))
           refine gdE hF (fun h10566 hF => ?_)
           refine bindE hF (fun x24846 hx24847 hF => ?_)
           obtain ⟨b24848, o24849, hA24850, hb24851, he24852⟩ := hCp2.at_ eInt_len (by decide) hx24847
           refine seq_c (s_indexA ((v24701 + 1).toNat) Try.underlying49 Try.sizeOf3 rfl hA24850 rfl (Int.toNat_of_nonneg h10566).symm (lt_n hx24847 rfl) ?_)
           refine seq_c (s_loadB1 hI (iv x24846) Try.isAgg3 rfl hb24851 (by simp) (he24852 0 _ rfl) ?_)
           refine pu (slv g24815 u24696.length c24816) (by kernel_rfl) (pu (iv ((u24696.length : Nat) : Int)) (by kernel_rfl) (bindE hF (fun y24853 hy24854 hF => ?_)))
           refine seq_c (s_callv hI 59 [iv x24846, iv (u24696.length : Int)] (iv y24853) (by kernel_rfl) (L59 _ x24846 (u24696.length : Int) _ hy24854) ?_)
           intro w hI
           refine pu (iv y24853) (by kernel_rfl) (seq_nil (wp_seq (gdE hF (fun h10569 hF => ?_))))
           refine bindE hF (fun x24881 hx24882 hF => ?_)
           refine gdE hF (fun h10570 hF => ?_)
           refine bindE hF (fun x24885 hx24886 hF => ?_)
           refine bindE hF (fun x24892 hx24893 hF => ?_)
           replace hI := hI.pickL [1, 2, 3, 4, 5, 0] (by decide) rfl
           refine wp_drawn2 hI [0, 1, 2, 3, 4] (by decide) rfl (by kernel_rfl) (by kernel_rfl) ?_
           intro hsub
           refine alp 0 (slv g24815 u24696.length c24816) hsub rfl (by kernel_rfl) (fun _ => (by kernel_rfl)) ?_
           refine alp 1 (iv y24835) hsub rfl (by kernel_rfl) (fun _ => (by kernel_rfl)) ?_
           refine alp 2 (slv g24815 u24696.length c24816) hsub rfl (by kernel_rfl) (fun _ => (by kernel_rfl)) ?_
           refine alp 3 (iv y24853) hsub rfl (by kernel_rfl) (fun _ => (by kernel_rfl)) ?_
           refine alp 4 (slv g24697 u24696.length c24698) hsub rfl (by kernel_rfl) (fun _ => (by kernel_rfl)) ?_
           refine alp 5 (iv y24853) hsub rfl (by kernel_rfl) (fun _ => (by kernel_rfl)) ?_
           obtain ⟨b24897, rfl, he24898⟩ := r24700.at_ eInt_len (by decide) hx24882
           refine al_light 6 (.pointer (some ⟨b24897, (y24853).toNat * 1, none⟩)) hsub rfl (by kernel_rfl) (fun w hI => s_indexR (y24853).toNat Try.underlying49 Try.sizeOf3 rfl rfl (Int.toNat_of_nonneg h10569).symm (lt_n hx24882 rfl) ⟨rfl, Below.refl _ _⟩) ?_
           refine al_light 7 (iv x24881) hsub rfl (by kernel_rfl) (fun w hI => s_loadR1 hI 4 (iv x24881) Try.isAgg3 rfl rfl (he24898 0 _ rfl) ⟨rfl, Below.refl _ _⟩) ?_
           refine alp 8 (slv (some b24897) u24696.length c24698) hsub rfl (by kernel_rfl) (fun _ => (by kernel_rfl)) ?_
           refine alp 9 (iv y24835) hsub rfl (by kernel_rfl) (fun _ => (by kernel_rfl)) ?_
           have he24899 := r24700.atS eInt_len (by decide) hx24886
           refine al_light 10 (.pointer (some ⟨b24897, (y24835).toNat * 1, none⟩)) hsub rfl (by kernel_rfl) (fun w hI => s_indexR (y24835).toNat Try.underlying49 Try.sizeOf3 rfl rfl (Int.toNat_of_nonneg h10570).symm (lt_n hx24886 rfl) ⟨rfl, Below.refl _ _⟩) ?_
           refine al_light 11 (iv x24885) hsub rfl (by kernel_rfl) (fun w hI => s_loadR1 hI 4 (iv x24885) Try.isAgg3 rfl rfl (he24899 0 _ rfl) ⟨rfl, Below.refl _ _⟩) ?_
           obtain ⟨b24900, rfl, he24901⟩ := r24818.at_ eInt_len (by decide) hx24886
           refine al_light 12 (.pointer (some ⟨b24900, (y24835).toNat * 1, none⟩)) hsub rfl (by kernel_rfl) (fun w hI => s_indexR (y24835).toNat Try.underlying49 Try.sizeOf3 rfl rfl (Int.toNat_of_nonneg h10570).symm (lt_n hx24886 rfl) ⟨rfl, Below.refl _ _⟩) ?_
           refine any_heavy [13] (by kernel_rfl) rfl (each1 ?_)
           intro w hI
           have := lt_n hx24886 rfl
           refine ol_c rfl (s_store hI 5 1 [iv x24881] Try.sizeOf3 rfl rfl rfl rfl rfl (r24818.room (by omega)) ?_)
           intro w hI
           refine ⟨_, hI, subk (fun _ h => h.pickL [0, 1, 2, 3, 4] (by decide) rfl) ?_⟩
           intro hsub
           have r24902 := r24818.put eInt_len (by decide) (y24835).toNat x24881 (by omega)
           have he24904 := r24902.atS eInt_len (by decide) hx24893
           refine al_light 14 (.pointer (some ⟨b24900, (y24853).toNat * 1, none⟩)) hsub rfl (by kernel_rfl) (fun w hI => s_indexR (y24853).toNat Try.underlying49 Try.sizeOf3 rfl rfl (Int.toNat_of_nonneg h10569).symm (lt_n hx24893 (set_len rfl)) ⟨rfl, Below.refl _ _⟩) ?_
           refine any_heavy [15] (by kernel_rfl) rfl (each1 ?_)
           intro w hI
           have := lt_n hx24893 (set_len rfl)
           refine ol_c rfl (s_store hI 5 1 [iv x24885] Try.sizeOf3 rfl rfl rfl rfl rfl (r24902.room (by omega)) ?_)
           intro w hI
           refine ⟨_, hI, subk (fun _ h => h.pickL [0, 1, 2, 3, 4] (by decide) rfl) ?_⟩
           intro hsub
           have r24905 := r24902.put eInt_len (by decide) (y24853).toNat x24885 (by omega)
           refine any_end (by kernel_rfl) (fun w hI => ?_)
           refine wp_seq (rgn (by kernel_rfl) (seq_c (s_loadK hI 0 2 [iv y12463.1, slv g12465 y12463.2.length c12466] Try.isAgg24 Try.sizeOf24 rfl rfl rfl rfl ?_)))
           refine pu (slv (some b24900) u24696.length c24816) (by kernel_rfl) (bindE hF (fun y24909 hy24910 hF => ?_))
           refine seq_c (s_callv hI 42 [.agg #[iv y12463.1, slv g12465 y12463.2.length c12466], slv (some b24900) u24696.length c24816] (iv y24909) (by kernel_rfl) (Does.cast (L42 _ y12463.1 (g12465.map fun b => ⟨b, 0, none⟩) c12466 y12463.2 ((some b24900).map fun b => ⟨b, 0, none⟩) c24816 (((u24696).set (y24835).toNat x24881).set (y24853).toNat x24885) (hI.rowCells 1 rfl r12468) (len_le rfl r12468.big) (len_le rfl r12468.cap) (hI.rowCells 5 rfl r24905) (len_le (set_len (set_len rfl)) r24905.big) (len_le (set_len (set_len rfl)) r24905.cap) N _ hy24910) (by first | (simp only [List.length_set, sortI_len] <;> rfl) | rfl)) ?_)
           intro w hI
           refine ifE hF (fun h10572 hF => ?_) (fun h10572 hF => ?_)
           ·
            refine seq_c (s_eql rfl rfl (fun _ => ?_) (fun h => absurd (a := y24909 = 0) h10572 h))
            refine seq_nil (wp_condT rfl (rgn (by kernel_rfl) (pu (slv (some b24900) u24696.length c24816) (by kernel_rfl) (pu (slv (some b24900) u24696.length c24816) (by kernel_rfl) (seq_nil ?_)))))
            exact .inl ⟨rfl, ⟨some b24900, c24816, putCells (putCells cl24817 ((y24835).toNat * 1) (eInt x24881)) ((y24853).toNat * 1) (eInt x24885), ((u24696).set (y24835).toNat x24881).set (y24853).toNat x24885, ⟨rfl, rfl, rfl, rfl, (slv_n (set_len (set_len rfl))), rfl, trivial⟩, hI.pickL [0, 1, 2, 3, 5] (by decide) rfl, (r24905.to rfl (set_len (set_len rfl))), hF⟩⟩
           ·
            refine seq_c (s_eql rfl rfl (fun h => absurd (a := y24909 = 0) h h10572) (fun _ => ?_))
            refine seq_nil (wp_condF rfl (wp_skip ?_))
            exact .inl ⟨rfl, ⟨some b24897, c24698, cl24699, u24696, ⟨rfl, rfl, rfl, rfl, rfl, rfl, trivial⟩, hI.pickL [0, 1, 2, 3, 4] (by decide) rfl, (r24700.to rfl rfl), hF⟩⟩
          ·intro ρ w hJ
           obtain ⟨g24805, c24806, cl24807, u24804, hag, hI, r24808, hF⟩ := hJ
           obtain ⟨ρ, rfl⟩ := hag.form; clear hag
           unfold F13j21 at hF
           refine rgn (by kernel_rfl) (pu (iv v24701) (by kernel_rfl) (ckE hF (fun h10560 hF => ?_)))
           refine seq_c (s_add rfl rfl h10560 ?_)
           refine pu (iv (v24701 + 2)) (by kernel_rfl) (seq_nil ?_)
           exact ⟨rfl, m19, Nat.lt_succ_self _, ⟨g24805, c24806, cl24807, u24804, v24701 + 2, m19, ⟨rfl, rfl, rfl, rfl, rfl, rfl, trivial⟩, hI.pickL [0, 1, 2, 3, 4] (by decide) rfl, (r24808.to rfl rfl), hF, rfl⟩⟩
         ·
          refine seq_on (by kernel_rfl) (s_gtr rfl rfl (fun h => absurd (a := 0 < (u24696.length : Int)) h h10547) (fun _ => ?_))
          refine pu (.bool false) (by kernel_rfl) (seq_nil ?_)
          exact .inl ⟨rfl, ⟨⟨rfl, rfl, rfl, rfl, rfl, rfl, rfl, trivial⟩, hI.pickL [0, 1, 2, 3, 4] (by decide) rfl, hF⟩⟩
        ·
         refine seq_on (by kernel_rfl) (s_lss rfl rfl (fun h => absurd (a := v24701 < 40) h h10546) (fun _ => ?_))
         refine pu (.bool false) (by kernel_rfl) (pu (.bool false) (by kernel_rfl) (of_ (by kernel_rfl) (of_ (by kernel_rfl) (of_ (by kernel_rfl) (pu (.bool false) (by kernel_rfl) (seq_nil ?_))))))
         exact .inl ⟨rfl, ⟨⟨rfl, rfl, rfl, rfl, rfl, rfl, rfl, trivial⟩, hI.pickL [0, 1, 2, 3, 4] (by decide) rfl, hF⟩⟩
       ·
        refine seq_c (s_lss rfl rfl (fun h => absurd (a := (v24701 + 1) < (lp2.length : Int)) h h10545) (fun _ => ?_))
        refine pu (.bool false) (by kernel_rfl) (of_ (by kernel_rfl) (of_ (by kernel_rfl) (pu (.bool false) (by kernel_rfl) (pu (.bool false) (by kernel_rfl) (of_ (by kernel_rfl) (of_ (by kernel_rfl) (of_ (by kernel_rfl) (pu (.bool false) (by kernel_rfl) (seq_nil ?_)))))))))
        exact .inl ⟨rfl, ⟨⟨rfl, rfl, rfl, rfl, rfl, rfl, rfl, trivial⟩, hI.pickL [0, 1, 2, 3, 4] (by decide) rfl, hF⟩⟩
      ·intro ρ w hJ
       obtain ⟨hag, hI, hF⟩ := hJ
       obtain ⟨ρ, rfl⟩ := hag.form; clear hag
       unfold F13j20 at hF
       refine wp_condF rfl (wp_exit ?_)
       exact .inl ⟨rfl, ⟨g24697, c24698, cl24699, u24696, ⟨rfl, rfl, rfl, rfl, trivial⟩, hI.pickL [0, 1, 2, 3, 4] (by decide) rfl, (r24700.to rfl rfl), hF⟩⟩
     ·intro ρ w hJ
      obtain ⟨g13156, c13157, cl13158, u13155, hag, hI, r13159, hF⟩ := hJ
      obtain ⟨ρ, rfl⟩ := hag.form; clear hag
      unfold F13j1 at hF
      refine wp_cutO (fun ρ w => ∃ (g16912 : Option Nat) (c16913 : Nat) (cl16914 : List Value) (g16916 : Option Nat) (c16917 : Nat) (cl16918 : List Value), Agree ρ [(7, .pointer (some ⟨b12469, 0, none⟩)), (10, slv g16916 y12488.1.length c16917), (12, slv g12502 y12500.1.length c12503)] ∧ Inv [] w0 w [(some b12469, blk [iv y12463.1, slv g16912 y12463.2.length c16913] 24), (g16912, blk cl16914 26), (g16916, blk cl16918 3), (g12502, blk cl12504 3)] ∧ (Row 3 g16912 (y12463.2.length) c16913 cl16914 (flat eCm y12463.2)) ∧ (Row 1 g16916 (y12488.1.length) c16917 cl16918 (flat eInt y12488.1)) ∧ F13j2 N y12463 y12488 y12500 = some r) ?_ ?_
      ·
       refine wp_seq (rgn (by kernel_rfl) (pu (iv 0) (by kernel_rfl) (seq_nil (wp_block ?_))))
       refine wp_loop (fun m ρ w => ∃ (g23017 : Option Nat) (c23018 : Nat) (cl23019 : List Value) (g23021 : Option Nat) (c23022 : Nat) (cl23023 : List Value) (g23025 : Option Nat) (c23026 : Nat) (cl23027 : List Value) (v23029 : Int) (mm : Nat), Agree ρ [(7, .pointer (some ⟨b12469, 0, none⟩)), (10, slv g23021 y12488.1.length c23022), (12, slv g12502 y12500.1.length c12503), (14, slv g23025 u13155.length c23026), (19, iv v23029)] ∧ Inv [] w0 w [(some b12469, blk [iv y12463.1, slv g23017 y12463.2.length c23018] 24), (g23017, blk cl23019 26), (g23021, blk cl23023 3), (g12502, blk cl12504 3), (g23025, blk cl23027 3)] ∧ (Row 3 g23017 (y12463.2.length) c23018 cl23019 (flat eCm y12463.2)) ∧ (Row 1 g23021 (y12488.1.length) c23022 cl23023 (flat eInt y12488.1)) ∧ (Row 1 g23025 (u13155.length) c23026 cl23027 (flat eInt u13155)) ∧ F13l9 N y12463 y12488 y12500 u13155 mm v23029 = some r ∧ mm = m) (m := N) ⟨g12465, c12466, cl12467, g12490, c12491, cl12492, g13156, c13157, cl13158, 0, N, ⟨rfl, rfl, rfl, rfl, rfl, trivial⟩, hI.pickL [0, 1, 2, 3, 4] (by decide) rfl, (r12468.to rfl rfl), (r12493.to rfl rfl), (r13159.to rfl rfl), hF, rfl⟩ ?_
       rintro m ρ w ⟨g23017, c23018, cl23019, g23021, c23022, cl23023, g23025, c23026, cl23027, v23029, mm, hag, hI, r23020, r23024, r23028, hF, hm⟩
       subst hm; obtain ⟨ρ, rfl⟩ := hag.form; clear hag
       obtain _ | m9 := mm
       ·cases (show (none : Option Bool) = some r from hF)
       replace hF : F13b9 N y12463 y12488 y12500 u13155 (F13l9 N y12463 y12488 y12500 u13155 m9) v23029 = some r := hF; unfold F13b9 at hF
       refine wp_seq (wp_seq (rgn (by kernel_rfl) (pu (iv v23029) (by kernel_rfl) (pu (slv g23025 u13155.length c23026) (by kernel_rfl) (pu (iv ((u13155.length : Nat) : Int)) (by kernel_rfl) (ifE hF (fun h9833 hF => ?_) (fun h9833 hF => ?_)))))))
       ·
        refine seq_c (s_lss rfl rfl (fun _ => ?_) (fun h => absurd (a := v23029 < (u13155.length : Int)) h9833 h))
        refine seq_nil (wp_condT rfl (wp_skip (wp_cutO (fun ρ w => ∃ (g23645 : Option Nat) (c23646 : Nat) (cl23647 : List Value) (g23649 : Option Nat) (c23650 : Nat) (cl23651 : List Value) (g23653 : Option Nat) (c23654 : Nat) (cl23655 : List Value), Agree ρ [(7, .pointer (some ⟨b12469, 0, none⟩)), (10, slv g23649 y12488.1.length c23650), (12, slv g12502 y12500.1.length c12503), (14, slv g23653 u13155.length c23654), (19, iv v23029)] ∧ Inv [] w0 w [(some b12469, blk [iv y12463.1, slv g23645 y12463.2.length c23646] 24), (g23645, blk cl23647 26), (g23649, blk cl23651 3), (g12502, blk cl12504 3), (g23653, blk cl23655 3)] ∧ (Row 3 g23645 (y12463.2.length) c23646 cl23647 (flat eCm y12463.2)) ∧ (Row 1 g23649 (y12488.1.length) c23650 cl23651 (flat eInt y12488.1)) ∧ (Row 1 g23653 (u13155.length) c23654 cl23655 (flat eInt u13155)) ∧ F13j10 (F13l9 N y12463 y12488 y12500 u13155 m9) v23029 = some r) ?_ ?_)))
        ·
         refine wp_block ?_
         refine wp_cutO (fun ρ w => ∃ (g23897 : Option Nat) (c23898 : Nat) (cl23899 : List Value) (g23901 : Option Nat) (c23902 : Nat) (cl23903 : List Value), Agree ρ [(7, .pointer (some ⟨b12469, 0, none⟩)), (10, slv g23021 y12488.1.length c23022), (12, slv g12502 y12500.1.length c12503), (14, slv g23901 u13155.length c23902), (19, iv v23029)] ∧ Inv [] w0 w [(some b12469, blk [iv y12463.1, slv g23897 y12463.2.length c23898] 24), (g23897, blk cl23899 26), (g23021, blk cl23023 3), (g12502, blk cl12504 3), (g23901, blk cl23903 3)] ∧ (Row 3 g23897 (y12463.2.length) c23898 cl23899 (flat eCm y12463.2)) ∧ (Row 1 g23901 (u13155.length) c23902 cl23903 (flat eInt u13155)) ∧ F13j11 N (F13l9 N y12463 y12488 y12500 u13155 m9) y12488 u13155 v23029 = some r) ?_ ?_
         ·
          refine wp_seq (rgn (by kernel_rfl) (pu (iv 0) (by kernel_rfl) (seq_nil (wp_block ?_))))
          refine wp_loop (fun m ρ w => ∃ (g24189 : Option Nat) (c24190 : Nat) (cl24191 : List Value) (g24193 : Option Nat) (c24194 : Nat) (cl24195 : List Value) (v24197 : Int) (mm : Nat), Agree ρ [(7, .pointer (some ⟨b12469, 0, none⟩)), (10, slv g23021 y12488.1.length c23022), (12, slv g12502 y12500.1.length c12503), (14, slv g24193 u13155.length c24194), (19, iv v23029), (20, iv v24197)] ∧ Inv [] w0 w [(some b12469, blk [iv y12463.1, slv g24189 y12463.2.length c24190] 24), (g24189, blk cl24191 26), (g23021, blk cl23023 3), (g12502, blk cl12504 3), (g24193, blk cl24195 3)] ∧ (Row 3 g24189 (y12463.2.length) c24190 cl24191 (flat eCm y12463.2)) ∧ (Row 1 g24193 (u13155.length) c24194 cl24195 (flat eInt u13155)) ∧ F13l16 N (F13l9 N y12463 y12488 y12500 u13155 m9) y12463 y12488 u13155 v23029 mm v24197 = some r ∧ mm = m) (m := N) ⟨g23017, c23018, cl23019, g23025, c23026, cl23027, 0, N, ⟨rfl, rfl, rfl, rfl, rfl, rfl, trivial⟩, hI.pickL [0, 1, 2, 3, 4] (by decide) rfl, (r23020.to rfl rfl), (r23028.to rfl rfl), hF, rfl⟩ ?_
          rintro m ρ w ⟨g24189, c24190, cl24191, g24193, c24194, cl24195, v24197, mm, hag, hI, r24192, r24196, hF, hm⟩
          subst hm; obtain ⟨ρ, rfl⟩ := hag.form; clear hag
          obtain _ | m16 := mm
          ·cases (show (none : Option Bool) = some r from hF)
          replace hF : F13b16 N (F13l9 N y12463 y12488 y12500 u13155 m9) y12463 y12488 u13155 v23029 (F13l16 N (F13l9 N y12463 y12488 y12500 u13155 m9) y12463 y12488 u13155 v23029 m16) v24197 = some r := hF; unfold F13b16 at hF
          refine wp_seq (wp_seq (rgn (by kernel_rfl) (pu (iv v24197) (by kernel_rfl) (pu (.pointer (some ⟨b12469, 1, none⟩)) (by kernel_rfl) (seq_c (s_load1 hI 0 (slv g24189 y12463.2.length c24190) Try.isAgg22 rfl rfl rfl ?_))))))
          refine pu (iv ((y12463.2.length : Nat) : Int)) (by kernel_rfl) (ifE hF (fun h10425 hF => ?_) (fun h10425 hF => ?_))
          ·
           refine seq_c (s_lss rfl rfl (fun _ => ?_) (fun h => absurd (a := v24197 < (y12463.2.length : Int)) h10425 h))
           refine seq_nil (wp_condT rfl (wp_skip (wp_seq (wp_block ?_))))
           refine wp_seq (gdE hF (fun h10447 hF => ?_))
           refine bindE hF (fun x24243 hx24244 hF => ?_)
           refine bindE hF (fun y24247 hy24248 hF => ?_)
           refine wp_drawn2 hI [0, 1, 2, 3, 4] (by decide) rfl (by kernel_rfl) (by kernel_rfl) ?_
           intro hsub
           refine al_light 0 (.agg #[iv y12463.1, slv g24189 y12463.2.length c24190]) hsub rfl (by kernel_rfl) (fun w hI => s_loadK hI 0 2 [iv y12463.1, slv g24189 y12463.2.length c24190] Try.isAgg24 Try.sizeOf24 rfl rfl rfl rfl ⟨rfl, Below.refl _ _⟩) ?_
           refine alp 1 (.pointer (some ⟨b12469, 1, none⟩)) hsub rfl (by kernel_rfl) (fun _ => (by kernel_rfl)) ?_
           refine al_light 2 (slv g24189 y12463.2.length c24190) hsub rfl (by kernel_rfl) (fun w hI => s_load1 hI 0 (slv g24189 y12463.2.length c24190) Try.isAgg22 rfl rfl rfl ⟨rfl, Below.refl _ _⟩) ?_
           refine alp 3 (iv v24197) hsub rfl (by kernel_rfl) (fun _ => (by kernel_rfl)) ?_
           obtain ⟨b24249, rfl, he24250⟩ := r24192.at_ eCm_len (by decide) hx24244
           refine al_light 4 (.pointer (some ⟨b24249, (v24197).toNat * 3, none⟩)) hsub rfl (by kernel_rfl) (fun w hI => s_indexR (v24197).toNat Try.underlying22 Try.sizeOf26 rfl rfl (Int.toNat_of_nonneg h10447).symm (lt_n hx24244 rfl) ⟨rfl, Below.refl _ _⟩) ?_
           refine alp 5 (.pointer (some ⟨b24249, (v24197).toNat * 3, none⟩)) hsub rfl (by kernel_rfl) (fun _ => (by kernel_rfl)) ?_
           refine al_light 6 (iv x24243.fam) hsub rfl (by kernel_rfl) (fun w hI => s_loadR1 hI 1 (iv x24243.fam) Try.isAgg3 rfl rfl (he24250 0 _ rfl) ⟨rfl, Below.refl _ _⟩) ?_
           refine alp 7 (iv v23029) hsub rfl (by kernel_rfl) (fun _ => (by kernel_rfl)) ?_
           refine al_light 8 (.tuple #[iv y24247.1, iv y24247.2]) hsub rfl (by kernel_rfl) (fun w hI => s_call 53 [.agg #[iv y12463.1, slv (some b24249) y12463.2.length c24190], iv x24243.fam, iv v23029] (by kernel_rfl) (L53 _ y12463.1 ((some b24249).map fun b => ⟨b, 0, none⟩) c24190 y12463.2 x24243.fam v23029 (hI.rowCells 1 rfl r24192) (len_le rfl r24192.big) (len_le rfl r24192.cap) N _ hy24248) (fun v' w' h => h)) ?_
           refine alp 9 (.tuple #[iv y24247.1, iv y24247.2]) hsub rfl (by kernel_rfl) (fun _ => (by kernel_rfl)) ?_
           refine alp 10 (iv y24247.1) hsub rfl (by kernel_rfl) (fun _ => (by kernel_rfl)) ?_
           refine alp 11 (iv y24247.2) hsub rfl (by kernel_rfl) (fun _ => (by kernel_rfl)) ?_
           refine alp 12 (iv y24247.1) hsub rfl (by kernel_rfl) (fun _ => (by kernel_rfl)) ?_
           refine alp 13 (iv y24247.2) hsub rfl (by kernel_rfl) (fun _ => (by kernel_rfl)) ?_
           refine any_end (by kernel_rfl) (fun w hI => ?_)
           refine wp_cutO (fun ρ w => ∃ (g24259 : Option Nat) (c24260 : Nat) (cl24261 : List Value) (v24263 : Bool), Agree ρ [(7, .pointer (some ⟨b12469, 0, none⟩)), (10, slv g23021 y12488.1.length c23022), (12, slv g12502 y12500.1.length c12503), (14, slv g24259 u13155.length c24260), (19, iv v23029), (20, iv v24197), (21, iv y24247.1), (22, iv y24247.2), (23, .bool v24263)] ∧ Inv [] w0 w [(some b12469, blk [iv y12463.1, slv (some b24249) y12463.2.length c24190] 24), (some b24249, blk cl24191 26), (g23021, blk cl23023 3), (g12502, blk cl12504 3), (g24259, blk cl24261 3)] ∧ (Row 1 g24259 (u13155.length) c24260 cl24261 (flat eInt u13155)) ∧ F13j17 (F13l16 N (F13l9 N y12463 y12488 y12500 u13155 m9) y12463 y12488 u13155 v23029 m16) v24197 y24247 v24263 = some r) ?_ ?_
           ·
            refine gdE hF (fun h10465 hF => ?_)
            refine bindE hF (fun x24264 hx24265 hF => ?_)
            refine ifE hF (fun h10466 hF => ?_) (fun h10466 hF => ?_)
            ·
             refine wp_drawn2 hI [0, 1, 2, 3, 4] (by decide) rfl (by kernel_rfl) (by kernel_rfl) ?_
             intro hsub
             refine alp 0 (slv g24193 u13155.length c24194) hsub rfl (by kernel_rfl) (fun _ => (by kernel_rfl)) ?_
             refine alp 1 (iv v23029) hsub rfl (by kernel_rfl) (fun _ => (by kernel_rfl)) ?_
             obtain ⟨b24268, rfl, he24269⟩ := r24196.at_ eInt_len (by decide) hx24265
             refine al_light 2 (.pointer (some ⟨b24268, (v23029).toNat * 1, none⟩)) hsub rfl (by kernel_rfl) (fun w hI => s_indexR (v23029).toNat Try.underlying49 Try.sizeOf3 rfl rfl (Int.toNat_of_nonneg h10465).symm (lt_n hx24265 rfl) ⟨rfl, Below.refl _ _⟩) ?_
             refine al_light 3 (iv x24264) hsub rfl (by kernel_rfl) (fun w hI => s_loadR1 hI 4 (iv x24264) Try.isAgg3 rfl rfl (he24269 0 _ rfl) ⟨rfl, Below.refl _ _⟩) ?_
             refine alp 4 (.pointer (some ⟨b12469, 1, none⟩)) hsub rfl (by kernel_rfl) (fun _ => (by kernel_rfl)) ?_
             refine al_light 5 (slv (some b24249) y12463.2.length c24190) hsub rfl (by kernel_rfl) (fun w hI => s_load1 hI 0 (slv (some b24249) y12463.2.length c24190) Try.isAgg22 rfl rfl rfl ⟨rfl, Below.refl _ _⟩) ?_
             refine alp 6 (iv v24197) hsub rfl (by kernel_rfl) (fun _ => (by kernel_rfl)) ?_
             refine al_light 7 (.pointer (some ⟨b24249, (v24197).toNat * 3, none⟩)) hsub rfl (by kernel_rfl) (fun w hI => s_indexR (v24197).toNat Try.underlying22 Try.sizeOf26 rfl rfl (Int.toNat_of_nonneg h10447).symm (lt_n hx24244 rfl) ⟨rfl, Below.refl _ _⟩) ?_
             refine alp 8 (.pointer (some ⟨b24249, (v24197).toNat * 3, none⟩)) hsub rfl (by kernel_rfl) (fun _ => (by kernel_rfl)) ?_
             refine al_light 9 (iv x24243.fam) hsub rfl (by kernel_rfl) (fun w hI => s_loadR1 hI 1 (iv x24243.fam) Try.isAgg3 rfl rfl (he24250 0 _ rfl) ⟨rfl, Below.refl _ _⟩) ?_
             refine al_light 10 (.bool true) hsub rfl (by kernel_rfl) (fun w hI => s_eql rfl rfl (fun _ => ⟨rfl, Below.refl _ _⟩) (fun h => absurd (a := x24264 = x24243.fam) h10466 h)) ?_
             refine alp 11 (.bool true) hsub rfl (by kernel_rfl) (fun _ => (by kernel_rfl)) ?_
             refine any_end (by kernel_rfl) (fun w hI => ?_)
             exact .inl ⟨rfl, ⟨some b24268, c24194, cl24195, true, ⟨rfl, rfl, rfl, rfl, rfl, rfl, rfl, rfl, rfl, trivial⟩, hI.pickL [0, 1, 2, 3, 4] (by decide) rfl, (r24196.to rfl rfl), hF⟩⟩
            ·
             refine wp_drawn2 hI [0, 1, 2, 3, 4] (by decide) rfl (by kernel_rfl) (by kernel_rfl) ?_
             intro hsub
             refine alp 0 (slv g24193 u13155.length c24194) hsub rfl (by kernel_rfl) (fun _ => (by kernel_rfl)) ?_
             refine alp 1 (iv v23029) hsub rfl (by kernel_rfl) (fun _ => (by kernel_rfl)) ?_
             obtain ⟨b24270, rfl, he24271⟩ := r24196.at_ eInt_len (by decide) hx24265
             refine al_light 2 (.pointer (some ⟨b24270, (v23029).toNat * 1, none⟩)) hsub rfl (by kernel_rfl) (fun w hI => s_indexR (v23029).toNat Try.underlying49 Try.sizeOf3 rfl rfl (Int.toNat_of_nonneg h10465).symm (lt_n hx24265 rfl) ⟨rfl, Below.refl _ _⟩) ?_
             refine al_light 3 (iv x24264) hsub rfl (by kernel_rfl) (fun w hI => s_loadR1 hI 4 (iv x24264) Try.isAgg3 rfl rfl (he24271 0 _ rfl) ⟨rfl, Below.refl _ _⟩) ?_
             refine alp 4 (.pointer (some ⟨b12469, 1, none⟩)) hsub rfl (by kernel_rfl) (fun _ => (by kernel_rfl)) ?_
             refine al_light 5 (slv (some b24249) y12463.2.length c24190) hsub rfl (by kernel_rfl) (fun w hI => s_load1 hI 0 (slv (some b24249) y12463.2.length c24190) Try.isAgg22 rfl rfl rfl ⟨rfl, Below.refl _ _⟩) ?_
             refine alp 6 (iv v24197) hsub rfl (by kernel_rfl) (fun _ => (by kernel_rfl)) ?_
             refine al_light 7 (.pointer (some ⟨b24249, (v24197).toNat * 3, none⟩)) hsub rfl (by kernel_rfl) (fun w hI => s_indexR (v24197).toNat Try.underlying22 Try.sizeOf26 rfl rfl (Int.toNat_of_nonneg h10447).symm (lt_n hx24244 rfl) ⟨rfl, Below.refl _ _⟩) ?_
             refine alp 8 (.pointer (some ⟨b24249, (v24197).toNat * 3, none⟩)) hsub rfl (by kernel_rfl) (fun _ => (by kernel_rfl)) ?_
             refine al_light 9 (iv x24243.fam) hsub rfl (by kernel_rfl) (fun w hI => s_loadR1 hI 1 (iv x24243.fam) Try.isAgg3 rfl rfl (he24250 0 _ rfl) ⟨rfl, Below.refl _ _⟩) ?_
             refine al_light 10 (.bool false) hsub rfl (by kernel_rfl) (fun w hI => s_eql rfl rfl (fun h => absurd (a := x24264 = x24243.fam) h h10466) (fun _ => ⟨rfl, Below.refl _ _⟩)) ?_
             refine alp 11 (.bool false) hsub rfl (by kernel_rfl) (fun _ => (by kernel_rfl)) ?_
             refine any_end (by kernel_rfl) (fun w hI => ?_)
             exact .inl ⟨rfl, ⟨some b24270, c24194, cl24195, false, ⟨rfl, rfl, rfl, rfl, rfl, rfl, rfl, rfl, rfl, trivial⟩, hI.pickL [0, 1, 2, 3, 4] (by decide) rfl, (r24196.to rfl rfl), hF⟩⟩
           ·intro ρ w hJ
            obtain ⟨g24259, c24260, cl24261, v24263, hag, hI, r24262, hF⟩ := hJ
            obtain ⟨ρ, rfl⟩ := hag.form; clear hag
            unfold F13j17 at hF
            refine wp_cutO (fun ρ w => Agree ρ [(7, .pointer (some ⟨b12469, 0, none⟩)), (10, slv g23021 y12488.1.length c23022), (12, slv g12502 y12500.1.length c12503), (14, slv g24259 u13155.length c24260), (19, iv v23029), (20, iv v24197), (174, .bool false)] ∧ Inv [] w0 w [(some b12469, blk [iv y12463.1, slv (some b24249) y12463.2.length c24190] 24), (some b24249, blk cl24191 26), (g23021, blk cl23023 3), (g12502, blk cl12504 3), (g24259, blk cl24261 3)] ∧ F13j18 (F13l16 N (F13l9 N y12463 y12488 y12500 u13155 m9) y12463 y12488 u13155 v23029 m16) v24197 = some r) ?_ ?_
            ·
             have hG := hF; rcases Bool.eq_false_or_eq_true v24263 with rfl | rfl
             ·
              have hF := hG; clear hG
              refine ifE hF (fun _ hF => ?_) (fun h => absurd rfl h)
              refine rgn (by kernel_rfl) (pu (iv y24247.2) (by kernel_rfl) (ifE hF (fun h10458 hF => ?_) (fun h10458 hF => ?_)))
              ·
               refine seq_c (s_neq rfl rfl (fun h => absurd (a := y24247.2 = 0) h10458 h) (fun _ => ?_))
               refine pu (.bool false) (by kernel_rfl) (puo (iv y24247.1) ⟨(by kernel_rfl), (by kernel_rfl)⟩ (ifE hF (fun h10459 hF => ?_) (fun h10459 hF => ?_)))
               ·
                refine seq_on (by kernel_rfl) (s_eql rfl rfl (fun _ => ?_) (fun h => absurd (a := y24247.1 = 1) h10459 h))
                refine puo (.bool true) ⟨(by kernel_rfl), (by kernel_rfl)⟩ (puo (.bool true) ⟨(by kernel_rfl), (by kernel_rfl)⟩ (puo (.bool false) ⟨(by kernel_rfl), (by kernel_rfl)⟩ (puo (.bool false) ⟨(by kernel_rfl), (by kernel_rfl)⟩ (pu (.bool false) (by kernel_rfl) (pu (.bool false) (by kernel_rfl) (puo (iv y24247.1) ⟨(by kernel_rfl), (by kernel_rfl)⟩ (ifE hF (fun h10460 hF => ?_) (fun h10460 hF => ?_))))))))
                ·
                 refine seq_on (by kernel_rfl) (s_eql rfl rfl (fun _ => ?_) (fun h => absurd (a := y24247.1 = 0) h10460 h))
                 refine puo (.bool true) ⟨(by kernel_rfl), (by kernel_rfl)⟩ (puo (.bool true) ⟨(by kernel_rfl), (by kernel_rfl)⟩ (puo (.bool true) ⟨(by kernel_rfl), (by kernel_rfl)⟩ (pu (.bool true) (by kernel_rfl) (seq_nil (.inr ?_)))))
                 refine wp_condT rfl (wp_seq (rgn (by kernel_rfl) (pu (.bool false) (by kernel_rfl) (seq_nil (wp_ret ?_)))))
                 replace hF := Option.some.inj hF; subst hF
                 exact ⟨.bool false, Ret.r1 rfl rfl, ⟨rfl, hI.below⟩⟩
                ·
                 refine seq_on (by kernel_rfl) (s_eql rfl rfl (fun h => absurd (a := y24247.1 = 0) h h10460) (fun _ => ?_))
                 refine puo (.bool false) ⟨(by kernel_rfl), (by kernel_rfl)⟩ (of_ (by kernel_rfl) (puo (.bool false) ⟨(by kernel_rfl), (by kernel_rfl)⟩ (pu (.bool false) (by kernel_rfl) (seq_nil ?_))))
                 exact .inl ⟨rfl, ⟨⟨rfl, rfl, rfl, rfl, rfl, rfl, rfl, trivial⟩, hI.pickL [0, 1, 2, 3, 4] (by decide) rfl, hF⟩⟩
               ·
                refine seq_on (by kernel_rfl) (s_eql rfl rfl (fun h => absurd (a := y24247.1 = 1) h h10459) (fun _ => ?_))
                refine puo (.bool false) ⟨(by kernel_rfl), (by kernel_rfl)⟩ (of_ (by kernel_rfl) (of_ (by kernel_rfl) (puo (.bool false) ⟨(by kernel_rfl), (by kernel_rfl)⟩ (pu (.bool false) (by kernel_rfl) (pu (.bool false) (by kernel_rfl) (puo (iv y24247.1) ⟨(by kernel_rfl), (by kernel_rfl)⟩ (ifE hF (fun h10461 hF => ?_) (fun h10461 hF => ?_))))))))
                ·
                 refine seq_on (by kernel_rfl) (s_eql rfl rfl (fun _ => ?_) (fun h => absurd (a := y24247.1 = 0) h10461 h))
                 refine puo (.bool true) ⟨(by kernel_rfl), (by kernel_rfl)⟩ (puo (.bool true) ⟨(by kernel_rfl), (by kernel_rfl)⟩ (puo (.bool true) ⟨(by kernel_rfl), (by kernel_rfl)⟩ (pu (.bool true) (by kernel_rfl) (seq_nil (.inr ?_)))))
                 refine wp_condT rfl (wp_seq (rgn (by kernel_rfl) (pu (.bool false) (by kernel_rfl) (seq_nil (wp_ret ?_)))))
                 replace hF := Option.some.inj hF; subst hF
                 exact ⟨.bool false, Ret.r1 rfl rfl, ⟨rfl, hI.below⟩⟩
                ·
                 refine seq_on (by kernel_rfl) (s_eql rfl rfl (fun h => absurd (a := y24247.1 = 0) h h10461) (fun _ => ?_))
                 refine puo (.bool false) ⟨(by kernel_rfl), (by kernel_rfl)⟩ (of_ (by kernel_rfl) (puo (.bool false) ⟨(by kernel_rfl), (by kernel_rfl)⟩ (pu (.bool false) (by kernel_rfl) (seq_nil ?_))))
                 exact .inl ⟨rfl, ⟨⟨rfl, rfl, rfl, rfl, rfl, rfl, rfl, trivial⟩, hI.pickL [0, 1, 2, 3, 4] (by decide) rfl, hF⟩⟩
              ·
               refine seq_c (s_neq rfl rfl (fun _ => ?_) (fun h => absurd (a := y24247.2 = 0) h h10458))
               refine pu (.bool true) (by kernel_rfl) (of_ (by kernel_rfl) (of_ (by kernel_rfl) (of_ (by kernel_rfl) (seq_offN (by kernel_rfl) ?_))))
               refine seq_offN (by kernel_rfl) ?_
               refine of_ (by kernel_rfl) (pu (.bool true) (by kernel_rfl) (pu (.bool true) (by kernel_rfl) (of_ (by kernel_rfl) (of_ (by kernel_rfl) (of_ (by kernel_rfl) (seq_offN (by kernel_rfl) ?_))))))
               refine of_ (by kernel_rfl) (pu (.bool true) (by kernel_rfl) (seq_nil (.inr ?_)))
               refine wp_condT rfl (wp_seq (rgn (by kernel_rfl) (pu (.bool false) (by kernel_rfl) (seq_nil (wp_ret ?_)))))
               replace hF := Option.some.inj hF; subst hF
               exact ⟨.bool false, Ret.r1 rfl rfl, ⟨rfl, hI.below⟩⟩
             ·
              have hF := hG; clear hG
              refine ifE hF (fun h => absurd h (by decide)) (fun _ hF => ?_)
              refine rgn (by kernel_rfl) (pu (iv y24247.2) (by kernel_rfl) (ifE hF (fun h10462 hF => ?_) (fun h10462 hF => ?_)))
              ·
               refine seq_c (s_neq rfl rfl (fun h => absurd (a := y24247.2 = 0) h10462 h) (fun _ => ?_))
               refine pu (.bool false) (by kernel_rfl) (puo (iv y24247.1) ⟨(by kernel_rfl), (by kernel_rfl)⟩ (ifE hF (fun h10463 hF => ?_) (fun h10463 hF => ?_)))
               ·
                refine seq_on (by kernel_rfl) (s_eql rfl rfl (fun _ => ?_) (fun h => absurd (a := y24247.1 = 1) h10463 h))
                refine puo (.bool true) ⟨(by kernel_rfl), (by kernel_rfl)⟩ (puo (.bool false) ⟨(by kernel_rfl), (by kernel_rfl)⟩ (puo (.bool true) ⟨(by kernel_rfl), (by kernel_rfl)⟩ (puo (.bool true) ⟨(by kernel_rfl), (by kernel_rfl)⟩ (pu (.bool true) (by kernel_rfl) (pu (.bool true) (by kernel_rfl) (of_ (by kernel_rfl) (of_ (by kernel_rfl) (of_ (by kernel_rfl) (seq_offN (by kernel_rfl) ?_)))))))))
                refine of_ (by kernel_rfl) (pu (.bool true) (by kernel_rfl) (seq_nil (.inr ?_)))
                refine wp_condT rfl (wp_seq (rgn (by kernel_rfl) (pu (.bool false) (by kernel_rfl) (seq_nil (wp_ret ?_)))))
                replace hF := Option.some.inj hF; subst hF
                exact ⟨.bool false, Ret.r1 rfl rfl, ⟨rfl, hI.below⟩⟩
               ·
                refine seq_on (by kernel_rfl) (s_eql rfl rfl (fun h => absurd (a := y24247.1 = 1) h h10463) (fun _ => ?_))
                refine puo (.bool false) ⟨(by kernel_rfl), (by kernel_rfl)⟩ (of_ (by kernel_rfl) (of_ (by kernel_rfl) (puo (.bool false) ⟨(by kernel_rfl), (by kernel_rfl)⟩ (pu (.bool false) (by kernel_rfl) (pu (.bool false) (by kernel_rfl) (puo (iv y24247.1) ⟨(by kernel_rfl), (by kernel_rfl)⟩ (ifE hF (fun h10464 hF => ?_) (fun h10464 hF => ?_))))))))
                ·
                 refine seq_on (by kernel_rfl) (s_eql rfl rfl (fun _ => ?_) (fun h => absurd (a := y24247.1 = 0) h10464 h))
                 refine puo (.bool true) ⟨(by kernel_rfl), (by kernel_rfl)⟩ (puo (.bool false) ⟨(by kernel_rfl), (by kernel_rfl)⟩ (puo (.bool false) ⟨(by kernel_rfl), (by kernel_rfl)⟩ (pu (.bool false) (by kernel_rfl) (seq_nil ?_))))
                 exact .inl ⟨rfl, ⟨⟨rfl, rfl, rfl, rfl, rfl, rfl, rfl, trivial⟩, hI.pickL [0, 1, 2, 3, 4] (by decide) rfl, hF⟩⟩
                ·
                 refine seq_on (by kernel_rfl) (s_eql rfl rfl (fun h => absurd (a := y24247.1 = 0) h h10464) (fun _ => ?_))
                 refine puo (.bool false) ⟨(by kernel_rfl), (by kernel_rfl)⟩ (of_ (by kernel_rfl) (puo (.bool false) ⟨(by kernel_rfl), (by kernel_rfl)⟩ (pu (.bool false) (by kernel_rfl) (seq_nil ?_))))
                 exact .inl ⟨rfl, ⟨⟨rfl, rfl, rfl, rfl, rfl, rfl, rfl, trivial⟩, hI.pickL [0, 1, 2, 3, 4] (by decide) rfl, hF⟩⟩
              ·
               refine seq_c (s_neq rfl rfl (fun _ => ?_) (fun h => absurd (a := y24247.2 = 0) h h10462))
               refine pu (.bool true) (by kernel_rfl) (of_ (by kernel_rfl) (of_ (by kernel_rfl) (of_ (by kernel_rfl) (seq_offN (by kernel_rfl) ?_))))
               refine seq_offN (by kernel_rfl) ?_
               refine of_ (by kernel_rfl) (pu (.bool true) (by kernel_rfl) (pu (.bool true) (by kernel_rfl) (of_ (by kernel_rfl) (of_ (by kernel_rfl) (of_ (by kernel_rfl) (seq_offN (by kernel_rfl) ?_))))))
               refine of_ (by kernel_rfl) (pu (.bool true) (by kernel_rfl) (seq_nil (.inr ?_)))
               refine wp_condT rfl (wp_seq (rgn (by kernel_rfl) (pu (.bool false) (by kernel_rfl) (seq_nil (wp_ret ?_)))))
               replace hF := Option.some.inj hF; subst hF
               exact ⟨.bool false, Ret.r1 rfl rfl, ⟨rfl, hI.below⟩⟩
            ·intro ρ w hJ
             obtain ⟨hag, hI, hF⟩ := hJ
             obtain ⟨ρ, rfl⟩ := hag.form; clear hag
             unfold F13j18 at hF
             refine wp_condF rfl (wp_skip (rgn (by kernel_rfl) (pu (iv v24197) (by kernel_rfl) (ckE hF (fun h10457 hF => ?_)))))
             refine seq_c (s_add rfl rfl h10457 ?_)
             refine pu (iv (v24197 + 1)) (by kernel_rfl) (seq_nil ?_)
             exact ⟨rfl, m16, Nat.lt_succ_self _, ⟨some b24249, c24190, cl24191, g24259, c24260, cl24261, v24197 + 1, m16, ⟨rfl, rfl, rfl, rfl, rfl, rfl, trivial⟩, hI.pickL [0, 1, 2, 3, 4] (by decide) rfl, (r24192.to rfl rfl), (r24262.to rfl rfl), hF, rfl⟩⟩
          ·
           refine seq_c (s_lss rfl rfl (fun h => absurd (a := v24197 < (y12463.2.length : Int)) h h10425) (fun _ => ?_))
           refine seq_nil (wp_condF rfl (wp_exit ?_))
           exact .inl ⟨rfl, ⟨g24189, c24190, cl24191, g24193, c24194, cl24195, ⟨rfl, rfl, rfl, rfl, rfl, trivial⟩, hI.pickL [0, 1, 2, 3, 4] (by decide) rfl, (r24192.to rfl rfl), (r24196.to rfl rfl), hF⟩⟩
         ·intro ρ w hJ
          obtain ⟨g23897, c23898, cl23899, g23901, c23902, cl23903, hag, hI, r23900, r23904, hF⟩ := hJ
          obtain ⟨ρ, rfl⟩ := hag.form; clear hag
          unfold F13j11 at hF
          refine wp_seq (rgn (by kernel_rfl) (pu (.bool false) (by kernel_rfl) (seq_nil (wp_cutO (fun ρ w => ∃ (g23956 : Option Nat) (c23957 : Nat) (cl23958 : List Value) (v23960 : Bool), Agree ρ [(7, .pointer (some ⟨b12469, 0, none⟩)), (10, slv g23956 y12488.1.length c23957), (12, slv g12502 y12500.1.length c12503), (14, slv g23901 u13155.length c23902), (19, iv v23029), (24, .bool v23960)] ∧ Inv [] w0 w [(some b12469, blk [iv y12463.1, slv g23897 y12463.2.length c23898] 24), (g23897, blk cl23899 26), (g23956, blk cl23958 3), (g12502, blk cl12504 3), (g23901, blk cl23903 3)] ∧ (Row 1 g23956 (y12488.1.length) c23957 cl23958 (flat eInt y12488.1)) ∧ F13j12 (F13l9 N y12463 y12488 y12500 u13155 m9) u13155 v23029 v23960 = some r) ?_ ?_))))
          ·
           refine wp_seq (rgn (by kernel_rfl) (pu (iv 0) (by kernel_rfl) (seq_nil (wp_block ?_))))
           refine wp_loop (fun m ρ w => ∃ (g24013 : Option Nat) (c24014 : Nat) (cl24015 : List Value) (v24017 : Bool) (v24018 : Int) (mm : Nat), Agree ρ [(7, .pointer (some ⟨b12469, 0, none⟩)), (10, slv g24013 y12488.1.length c24014), (12, slv g12502 y12500.1.length c12503), (14, slv g23901 u13155.length c23902), (19, iv v23029), (24, .bool v24017), (25, iv v24018)] ∧ Inv [] w0 w [(some b12469, blk [iv y12463.1, slv g23897 y12463.2.length c23898] 24), (g23897, blk cl23899 26), (g24013, blk cl24015 3), (g12502, blk cl12504 3), (g23901, blk cl23903 3)] ∧ (Row 1 g24013 (y12488.1.length) c24014 cl24015 (flat eInt y12488.1)) ∧ F13l14 (F13l9 N y12463 y12488 y12500 u13155 m9) y12488 u13155 v23029 mm v24017 v24018 = some r ∧ mm = m) (m := N) ⟨g23021, c23022, cl23023, false, 0, N, ⟨rfl, rfl, rfl, rfl, rfl, rfl, rfl, trivial⟩, hI.pickL [0, 1, 2, 3, 4] (by decide) rfl, (r23024.to rfl rfl), hF, rfl⟩ ?_
           rintro m ρ w ⟨g24013, c24014, cl24015, v24017, v24018, mm, hag, hI, r24016, hF, hm⟩
           subst hm; obtain ⟨ρ, rfl⟩ := hag.form; clear hag
           obtain _ | m14 := mm
           ·cases (show (none : Option Bool) = some r from hF)
           replace hF : F13b14 (F13l9 N y12463 y12488 y12500 u13155 m9) y12488 u13155 v23029 (F13l14 (F13l9 N y12463 y12488 y12500 u13155 m9) y12488 u13155 v23029 m14) v24017 v24018 = some r := hF; unfold F13b14 at hF
           refine wp_seq (wp_seq (rgn (by kernel_rfl) (pu (iv v24018) (by kernel_rfl) (pu (slv g24013 y12488.1.length c24014) (by kernel_rfl) (pu (iv ((y12488.1.length : Nat) : Int)) (by kernel_rfl) (ifE hF (fun h10331 hF => ?_) (fun h10331 hF => ?_)))))))
           ·
            refine seq_c (s_lss rfl rfl (fun _ => ?_) (fun h => absurd (a := v24018 < (y12488.1.length : Int)) h10331 h))
            refine seq_nil (wp_condT rfl (wp_skip (wp_cutO (fun ρ w => ∃ (g24023 : Option Nat) (c24024 : Nat) (cl24025 : List Value) (v24027 : Bool), Agree ρ [(7, .pointer (some ⟨b12469, 0, none⟩)), (10, slv g24023 y12488.1.length c24024), (12, slv g12502 y12500.1.length c12503), (14, slv g23901 u13155.length c23902), (19, iv v23029), (24, .bool v24027), (25, iv v24018)] ∧ Inv [] w0 w [(some b12469, blk [iv y12463.1, slv g23897 y12463.2.length c23898] 24), (g23897, blk cl23899 26), (g24023, blk cl24025 3), (g12502, blk cl12504 3), (g23901, blk cl23903 3)] ∧ (Row 1 g24023 (y12488.1.length) c24024 cl24025 (flat eInt y12488.1)) ∧ F13j15 (F13l14 (F13l9 N y12463 y12488 y12500 u13155 m9) y12488 u13155 v23029 m14) v24018 v24027 = some r) ?_ ?_)))
            ·
             refine wp_block ?_
             have hG := hF; rcases Bool.eq_false_or_eq_true v24017 with rfl | rfl
             ·
              have hF := hG; clear hG
              refine ifE hF (fun _ hF => ?_) (fun h => absurd rfl h)
              refine rgn (by kernel_rfl) (pu (.bool true) (by kernel_rfl) (pu (.bool true) (by kernel_rfl) (of_ (by kernel_rfl) (of_ (by kernel_rfl) (of_ (by kernel_rfl) (of_ (by kernel_rfl) (of_ (by kernel_rfl) (of_ (by kernel_rfl) (pu (.bool true) (by kernel_rfl) ?_)))))))))
              refine pu (.bool true) (by kernel_rfl) (seq_nil ?_)
              exact .inl ⟨rfl, ⟨g24013, c24014, cl24015, true, ⟨rfl, rfl, rfl, rfl, rfl, rfl, rfl, trivial⟩, hI.pickL [0, 1, 2, 3, 4] (by decide) rfl, (r24016.to rfl rfl), hF⟩⟩
             ·
              have hF := hG; clear hG
              refine ifE hF (fun h => absurd h (by decide)) (fun _ hF => ?_)
              refine rgn (by kernel_rfl) (pu (.bool false) (by kernel_rfl) (pu (.bool false) (by kernel_rfl) (puo (slv g24013 y12488.1.length c24014) ⟨(by kernel_rfl), (by kernel_rfl)⟩ (puo (iv v24018) ⟨(by kernel_rfl), (by kernel_rfl)⟩ (gdE hF (fun h10335 hF => ?_))))))
              refine bindE hF (fun x24028 hx24029 hF => ?_)
              obtain ⟨b24030, rfl, he24031⟩ := r24016.at_ eInt_len (by decide) hx24029
              refine seq_on (by kernel_rfl) (s_indexR (v24018).toNat Try.underlying49 Try.sizeOf3 rfl rfl (Int.toNat_of_nonneg h10335).symm (lt_n hx24029 rfl) ?_)
              refine seq_on (by kernel_rfl) (s_loadR1 hI 2 (iv x24028) Try.isAgg3 rfl rfl (he24031 0 _ rfl) ?_)
              refine puo (iv v23029) ⟨(by kernel_rfl), (by kernel_rfl)⟩ (ifE hF (fun h10336 hF => ?_) (fun h10336 hF => ?_))
              ·
               refine seq_on (by kernel_rfl) (s_eql rfl rfl (fun _ => ?_) (fun h => absurd (a := x24028 = v23029) h10336 h))
               refine pu (.bool true) (by kernel_rfl) (pu (.bool true) (by kernel_rfl) (seq_nil ?_))
               exact .inl ⟨rfl, ⟨some b24030, c24014, cl24015, true, ⟨rfl, rfl, rfl, rfl, rfl, rfl, rfl, trivial⟩, hI.pickL [0, 1, 2, 3, 4] (by decide) rfl, (r24016.to rfl rfl), hF⟩⟩
              ·
               refine seq_on (by kernel_rfl) (s_eql rfl rfl (fun h => absurd (a := x24028 = v23029) h h10336) (fun _ => ?_))
               refine pu (.bool false) (by kernel_rfl) (pu (.bool false) (by kernel_rfl) (seq_nil ?_))
               exact .inl ⟨rfl, ⟨some b24030, c24014, cl24015, false, ⟨rfl, rfl, rfl, rfl, rfl, rfl, rfl, trivial⟩, hI.pickL [0, 1, 2, 3, 4] (by decide) rfl, (r24016.to rfl rfl), hF⟩⟩
            ·intro ρ w hJ
             obtain ⟨g24023, c24024, cl24025, v24027, hag, hI, r24026, hF⟩ := hJ
             obtain ⟨ρ, rfl⟩ := hag.form; clear hag
             unfold F13j15 at hF
             refine rgn (by kernel_rfl) (pu (iv v24018) (by kernel_rfl) (ckE hF (fun h10334 hF => ?_)))
             refine seq_c (s_add rfl rfl h10334 ?_)
             refine pu (iv (v24018 + 1)) (by kernel_rfl) (seq_nil ?_)
             exact ⟨rfl, m14, Nat.lt_succ_self _, ⟨g24023, c24024, cl24025, v24027, v24018 + 1, m14, ⟨rfl, rfl, rfl, rfl, rfl, rfl, rfl, trivial⟩, hI.pickL [0, 1, 2, 3, 4] (by decide) rfl, (r24026.to rfl rfl), hF, rfl⟩⟩
           ·
            refine seq_c (s_lss rfl rfl (fun h => absurd (a := v24018 < (y12488.1.length : Int)) h h10331) (fun _ => ?_))
            refine seq_nil (wp_condF rfl (wp_exit ?_))
            exact .inl ⟨rfl, ⟨g24013, c24014, cl24015, v24017, ⟨rfl, rfl, rfl, rfl, rfl, rfl, trivial⟩, hI.pickL [0, 1, 2, 3, 4] (by decide) rfl, (r24016.to rfl rfl), hF⟩⟩
          ·intro ρ w hJ
           obtain ⟨g23956, c23957, cl23958, v23960, hag, hI, r23959, hF⟩ := hJ
           obtain ⟨ρ, rfl⟩ := hag.form; clear hag
           unfold F13j12 at hF
           refine wp_cutO (fun ρ w => ∃ (g23969 : Option Nat) (c23970 : Nat) (cl23971 : List Value), Agree ρ [(7, .pointer (some ⟨b12469, 0, none⟩)), (10, slv g23956 y12488.1.length c23957), (12, slv g12502 y12500.1.length c12503), (14, slv g23969 u13155.length c23970), (19, iv v23029), (198, .bool false)] ∧ Inv [] w0 w [(some b12469, blk [iv y12463.1, slv g23897 y12463.2.length c23898] 24), (g23897, blk cl23899 26), (g23956, blk cl23958 3), (g12502, blk cl12504 3), (g23969, blk cl23971 3)] ∧ (Row 1 g23969 (u13155.length) c23970 cl23971 (flat eInt u13155)) ∧ F13j13 (F13l9 N y12463 y12488 y12500 u13155 m9) v23029 = some r) ?_ ?_
           ·
            have hG := hF; rcases Bool.eq_false_or_eq_true v23960 with rfl | rfl
            ·
             have hF := hG; clear hG
             refine ifE hF (fun _ hF => ?_) (fun h => absurd rfl h)
             refine rgn (by kernel_rfl) (pu (slv g23901 u13155.length c23902) (by kernel_rfl) (pu (iv v23029) (by kernel_rfl) (gdE hF (fun h10309 hF => ?_))))
             refine bindE hF (fun x23973 hx23974 hF => ?_)
             obtain ⟨b23975, rfl, he23976⟩ := r23904.at_ eInt_len (by decide) hx23974
             refine seq_c (s_indexR (v23029).toNat Try.underlying49 Try.sizeOf3 rfl rfl (Int.toNat_of_nonneg h10309).symm (lt_n hx23974 rfl) ?_)
             refine seq_c (s_loadR1 hI 4 (iv x23973) Try.isAgg3 rfl rfl (he23976 0 _ rfl) ?_)
             refine ifE hF (fun h10310 hF => ?_) (fun h10310 hF => ?_)
             ·
              refine seq_c (s_eql rfl rfl (fun _ => ?_) (fun h => absurd (a := x23973 = 0) h10310 h))
              refine pu (.bool true) (by kernel_rfl) (puo (.bool true) ⟨(by kernel_rfl), (by kernel_rfl)⟩ (puo (.bool false) ⟨(by kernel_rfl), (by kernel_rfl)⟩ (pu (.bool false) (by kernel_rfl) (seq_nil ?_))))
              exact .inl ⟨rfl, ⟨some b23975, c23902, cl23903, ⟨rfl, rfl, rfl, rfl, rfl, rfl, trivial⟩, hI.pickL [0, 1, 2, 3, 4] (by decide) rfl, (r23904.to rfl rfl), hF⟩⟩
             ·
              refine seq_c (s_eql rfl rfl (fun h => absurd (a := x23973 = 0) h h10310) (fun _ => ?_))
              refine pu (.bool false) (by kernel_rfl) (of_ (by kernel_rfl) (of_ (by kernel_rfl) (pu (.bool false) (by kernel_rfl) (seq_nil ?_))))
              exact .inl ⟨rfl, ⟨some b23975, c23902, cl23903, ⟨rfl, rfl, rfl, rfl, rfl, rfl, trivial⟩, hI.pickL [0, 1, 2, 3, 4] (by decide) rfl, (r23904.to rfl rfl), hF⟩⟩
            ·
             have hF := hG; clear hG
             refine ifE hF (fun h => absurd h (by decide)) (fun _ hF => ?_)
             refine rgn (by kernel_rfl) (pu (slv g23901 u13155.length c23902) (by kernel_rfl) (pu (iv v23029) (by kernel_rfl) (gdE hF (fun h10311 hF => ?_))))
             refine bindE hF (fun x23977 hx23978 hF => ?_)
             obtain ⟨b23979, rfl, he23980⟩ := r23904.at_ eInt_len (by decide) hx23978
             refine seq_c (s_indexR (v23029).toNat Try.underlying49 Try.sizeOf3 rfl rfl (Int.toNat_of_nonneg h10311).symm (lt_n hx23978 rfl) ?_)
             refine seq_c (s_loadR1 hI 4 (iv x23977) Try.isAgg3 rfl rfl (he23980 0 _ rfl) ?_)
             refine ifE hF (fun h10312 hF => ?_) (fun h10312 hF => ?_)
             ·
              refine seq_c (s_eql rfl rfl (fun _ => ?_) (fun h => absurd (a := x23977 = 0) h10312 h))
              refine pu (.bool true) (by kernel_rfl) (puo (.bool false) ⟨(by kernel_rfl), (by kernel_rfl)⟩ (puo (.bool true) ⟨(by kernel_rfl), (by kernel_rfl)⟩ (pu (.bool true) (by kernel_rfl) (seq_nil (.inr ?_)))))
              refine wp_condT rfl (wp_seq (rgn (by kernel_rfl) (pu (.bool false) (by kernel_rfl) (seq_nil (wp_ret ?_)))))
              replace hF := Option.some.inj hF; subst hF
              exact ⟨.bool false, Ret.r1 rfl rfl, ⟨rfl, hI.below⟩⟩
             ·
              refine seq_c (s_eql rfl rfl (fun h => absurd (a := x23977 = 0) h h10312) (fun _ => ?_))
              refine pu (.bool false) (by kernel_rfl) (of_ (by kernel_rfl) (of_ (by kernel_rfl) (pu (.bool false) (by kernel_rfl) (seq_nil ?_))))
              exact .inl ⟨rfl, ⟨some b23979, c23902, cl23903, ⟨rfl, rfl, rfl, rfl, rfl, rfl, trivial⟩, hI.pickL [0, 1, 2, 3, 4] (by decide) rfl, (r23904.to rfl rfl), hF⟩⟩
           ·intro ρ w hJ
            obtain ⟨g23969, c23970, cl23971, hag, hI, r23972, hF⟩ := hJ
            obtain ⟨ρ, rfl⟩ := hag.form; clear hag
            unfold F13j13 at hF
            refine wp_condF rfl (wp_skip ?_)
            exact .inl ⟨rfl, ⟨g23897, c23898, cl23899, g23956, c23957, cl23958, g23969, c23970, cl23971, ⟨rfl, rfl, rfl, rfl, rfl, trivial⟩, hI.pickL [0, 1, 2, 3, 4] (by decide) rfl, (r23900.to rfl rfl), (r23959.to rfl rfl), (r23972.to rfl rfl), hF⟩⟩
        ·intro ρ w hJ
         obtain ⟨g23645, c23646, cl23647, g23649, c23650, cl23651, g23653, c23654, cl23655, hag, hI, r23648, r23652, r23656, hF⟩ := hJ
         obtain ⟨ρ, rfl⟩ := hag.form; clear hag
         unfold F13j10 at hF
         refine rgn (by kernel_rfl) (pu (iv v23029) (by kernel_rfl) (ckE hF (fun h10150 hF => ?_)))
         refine seq_c (s_add rfl rfl h10150 ?_)
         refine pu (iv (v23029 + 1)) (by kernel_rfl) (seq_nil ?_)
         exact ⟨rfl, m9, Nat.lt_succ_self _, ⟨g23645, c23646, cl23647, g23649, c23650, cl23651, g23653, c23654, cl23655, v23029 + 1, m9, ⟨rfl, rfl, rfl, rfl, rfl, trivial⟩, hI.pickL [0, 1, 2, 3, 4] (by decide) rfl, (r23648.to rfl rfl), (r23652.to rfl rfl), (r23656.to rfl rfl), hF, rfl⟩⟩
       ·
        refine seq_c (s_lss rfl rfl (fun h => absurd (a := v23029 < (u13155.length : Int)) h h9833) (fun _ => ?_))
        refine seq_nil (wp_condF rfl (wp_exit ?_))
        exact .inl ⟨rfl, ⟨g23017, c23018, cl23019, g23021, c23022, cl23023, ⟨rfl, rfl, rfl, trivial⟩, hI.pickL [0, 1, 2, 3] (by decide) rfl, (r23020.to rfl rfl), (r23024.to rfl rfl), hF⟩⟩
      ·intro ρ w hJ
       obtain ⟨g16912, c16913, cl16914, g16916, c16917, cl16918, hag, hI, r16915, r16919, hF⟩ := hJ
       obtain ⟨ρ, rfl⟩ := hag.form; clear hag
       unfold F13j2 at hF
       refine wp_cutO (fun ρ w => Agree ρ [] ∧ Inv [] w0 w [] ∧ F13j3 N = some r) ?_ ?_
       ·
        refine wp_seq (rgn (by kernel_rfl) (pu (iv 0) (by kernel_rfl) (seq_nil (wp_block ?_))))
        refine wp_loop (fun m ρ w => ∃ (g19919 : Option Nat) (c19920 : Nat) (cl19921 : List Value) (v19923 : Int) (mm : Nat), Agree ρ [(7, .pointer (some ⟨b12469, 0, none⟩)), (10, slv g19919 y12488.1.length c19920), (12, slv g12502 y12500.1.length c12503), (26, iv v19923)] ∧ Inv [] w0 w [(some b12469, blk [iv y12463.1, slv g16912 y12463.2.length c16913] 24), (g16912, blk cl16914 26), (g19919, blk cl19921 3), (g12502, blk cl12504 3)] ∧ (Row 1 g19919 (y12488.1.length) c19920 cl19921 (flat eInt y12488.1)) ∧ F13l4 N y12463 y12488 y12500 mm v19923 = some r ∧ mm = m) (m := N) ⟨g16916, c16917, cl16918, 0, N, ⟨rfl, rfl, rfl, rfl, trivial⟩, hI.pickL [0, 1, 2, 3] (by decide) rfl, (r16919.to rfl rfl), hF, rfl⟩ ?_
        rintro m ρ w ⟨g19919, c19920, cl19921, v19923, mm, hag, hI, r19922, hF, hm⟩
        subst hm; obtain ⟨ρ, rfl⟩ := hag.form; clear hag
        obtain _ | m4 := mm
        ·cases (show (none : Option Bool) = some r from hF)
        replace hF : F13b4 N y12463 y12488 y12500 (F13l4 N y12463 y12488 y12500 m4) v19923 = some r := hF; unfold F13b4 at hF
        refine wp_seq (wp_seq (rgn (by kernel_rfl) (pu (iv v19923) (by kernel_rfl) (pu (slv g19919 y12488.1.length c19920) (by kernel_rfl) (pu (iv ((y12488.1.length : Nat) : Int)) (by kernel_rfl) (ifE hF (fun h8383 hF => ?_) (fun h8383 hF => ?_)))))))
        ·
         refine seq_c (s_lss rfl rfl (fun _ => ?_) (fun h => absurd (a := v19923 < (y12488.1.length : Int)) h8383 h))
         refine seq_nil (wp_condT rfl (wp_skip (wp_cutO (fun ρ w => ∃ (g20220 : Option Nat) (c20221 : Nat) (cl20222 : List Value), Agree ρ [(7, .pointer (some ⟨b12469, 0, none⟩)), (10, slv g20220 y12488.1.length c20221), (12, slv g12502 y12500.1.length c12503), (26, iv v19923)] ∧ Inv [] w0 w [(some b12469, blk [iv y12463.1, slv g16912 y12463.2.length c16913] 24), (g16912, blk cl16914 26), (g20220, blk cl20222 3), (g12502, blk cl12504 3)] ∧ (Row 1 g20220 (y12488.1.length) c20221 cl20222 (flat eInt y12488.1)) ∧ F13j5 (F13l4 N y12463 y12488 y12500 m4) v19923 = some r) ?_ ?_)))
         ·
          refine wp_block ?_
          refine wp_cutO (fun ρ w => ∃ (b20247 : Nat) (g20248 : Option Nat) (c20249 : Nat) (cl20250 : List Value), Agree ρ [(7, .pointer (some ⟨b12469, 0, none⟩)), (10, slv g19919 y12488.1.length c19920), (12, slv g12502 y12500.1.length c12503), (26, iv v19923), (27, .pointer (some ⟨b20247, 0, none⟩))] ∧ Inv [] w0 w [(some b12469, blk [iv y12463.1, slv g16912 y12463.2.length c16913] 24), (g16912, blk cl16914 26), (g19919, blk cl19921 3), (g12502, blk cl12504 3), (some b20247, blk [iv y12463.1, slv g20248 y12463.2.length c20249] 24), (g20248, blk cl20250 26)] ∧ (Row 3 g20248 (y12463.2.length) c20249 cl20250 (flat eCm y12463.2)) ∧ F13j6 N (F13l4 N y12463 y12488 y12500 m4) y12463 y12488 y12500 v19923 = some r) ?_ ?_
          ·
           refine gdE hF (fun h8612 hF => ?_)
           replace hI := hI.pickL [0, 2, 3, 1] (by decide) rfl
           refine wp_drawn2 hI [0, 1, 2] (by decide) rfl (by kernel_rfl) (by kernel_rfl) ?_
           intro hsub
           refine alp 0 (.pointer (some ⟨b12469, 0, none⟩)) hsub rfl (by kernel_rfl) (fun _ => (by kernel_rfl)) ?_
           refine al_light 1 (iv y12463.1) hsub rfl (by kernel_rfl) (fun w hI => s_load1 hI 0 (iv y12463.1) Try.isAgg3 rfl rfl rfl ⟨rfl, Below.refl _ _⟩) ?_
           refine alp 3 (.pointer (some ⟨b12469, 1, none⟩)) hsub rfl (by kernel_rfl) (fun _ => (by kernel_rfl)) ?_
           refine al_light 4 (slv g16912 y12463.2.length c16913) hsub rfl (by kernel_rfl) (fun w hI => s_load1 hI 0 (slv g16912 y12463.2.length c16913) Try.isAgg22 rfl rfl rfl ⟨rfl, Below.refl _ _⟩) ?_
           refine any_heavy [2, 7] (by kernel_rfl) rfl (each2 ?_ ?_)
           ·intro w hI
            refine ol_c rfl (s_new hI [] 26 (fun b => slv (some b) 0 0) (by kernel_rfl) ?_)
            intro b20503 w hI
            refine ⟨_, hI, subk (fun _ h => h.pickL [1, 2, 3] (by decide) rfl) ?_⟩
            intro hsub
            refine any_heavy [5, 7] (by kernel_rfl) rfl (each2 ?_ ?_)
            ·intro w hI
             refine ol_c rfl (s_appN hI Try.underlying22 (z := .agg #[iv 0, iv 0, iv 0]) (k := 3) (bytes := 24) (by kernel_rfl) rfl rfl 0 rfl rfl (Row.zero_ 3 b20503) (flat eCm y12463.2) rfl (flat_len eCm_len _) (hI.rowCells 4 rfl r16915) (flat_cell eCm_cell _) (by omega) (by omega) (n2 := y12463.2.length) (app_len0 rfl) ?_)
             intro g20504 c20505 cl20506 w hI r20507
             refine ⟨_, hI, subk (fun _ h => h.pickL [1, 2, 3] (by decide) rfl) ?_⟩
             intro hsub
             have r20507 : Row 3 g20504 y12463.2.length c20505 cl20506 (flat eCm y12463.2) := r20507
             refine alp 6 (.agg #[iv y12463.1, slv g20504 y12463.2.length c20505]) hsub rfl (by kernel_rfl) (fun _ => (by kernel_rfl)) ?_
             refine any_heavy [7] (by kernel_rfl) rfl (each1 ?_)
             intro w hI
             refine ol_c rfl (s_allocI hI [iv 0, .slice none 0 0] Try.zeroValue24 rfl ?_)
             intro b20508 w hI
             refine ⟨_, hI, subk (fun _ h => h.pickL [2, 3, 4] (by decide) rfl) ?_⟩
             intro hsub
             refine any_heavy [8] (by kernel_rfl) rfl (each1 ?_)
             intro w hI
             refine ol_c rfl (s_store hI 0 2 [iv y12463.1, slv g20504 y12463.2.length c20505] Try.sizeOf24 rfl rfl rfl rfl rfl (Nat.le_of_ble_eq_true rfl) ?_)
             intro w hI
             refine ⟨_, hI, subk (fun _ h => h.pickL [2, 3, 4] (by decide) rfl) ?_⟩
             intro hsub
             refine any_end (by kernel_rfl) (fun w hI => ?_)
             exact .inl ⟨rfl, ⟨b20508, g20504, c20505, cl20506, ⟨rfl, rfl, rfl, rfl, rfl, trivial⟩, hI.pickL [2, 5, 3, 4, 0, 1] (by decide) rfl, (r20507.to rfl rfl), hF⟩⟩
            ·intro w hI
             refine ol_c rfl (s_allocI hI [iv 0, .slice none 0 0] Try.zeroValue24 rfl ?_)
             intro b20509 w hI
             refine ⟨_, hI, subk (fun _ h => h.pickL [2, 3, 4] (by decide) rfl) ?_⟩
             intro hsub
             refine any_heavy [5] (by kernel_rfl) rfl (each1 ?_)
             intro w hI
             refine ol_c rfl (s_appN hI Try.underlying22 (z := .agg #[iv 0, iv 0, iv 0]) (k := 3) (bytes := 24) (by kernel_rfl) rfl rfl 1 rfl rfl (Row.zero_ 3 b20503) (flat eCm y12463.2) rfl (flat_len eCm_len _) (hI.rowCells 5 rfl r16915) (flat_cell eCm_cell _) (by omega) (by omega) (n2 := y12463.2.length) (app_len0 rfl) ?_)
             intro g20510 c20511 cl20512 w hI r20513
             refine ⟨_, hI, subk (fun _ h => h.pickL [2, 3, 4] (by decide) rfl) ?_⟩
             intro hsub
             have r20513 : Row 3 g20510 y12463.2.length c20511 cl20512 (flat eCm y12463.2) := r20513
             refine alp 6 (.agg #[iv y12463.1, slv g20510 y12463.2.length c20511]) hsub rfl (by kernel_rfl) (fun _ => (by kernel_rfl)) ?_
             refine any_heavy [8] (by kernel_rfl) rfl (each1 ?_)
             intro w hI
             refine ol_c rfl (s_store hI 0 2 [iv y12463.1, slv g20510 y12463.2.length c20511] Try.sizeOf24 rfl rfl rfl rfl rfl (Nat.le_of_ble_eq_true rfl) ?_)
             intro w hI
             refine ⟨_, hI, subk (fun _ h => h.pickL [2, 3, 4] (by decide) rfl) ?_⟩
             intro hsub
             refine any_end (by kernel_rfl) (fun w hI => ?_)
             exact .inl ⟨rfl, ⟨b20509, g20510, c20511, cl20512, ⟨rfl, rfl, rfl, rfl, rfl, trivial⟩, hI.pickL [2, 5, 3, 4, 0, 1] (by decide) rfl, (r20513.to rfl rfl), hF⟩⟩
           ·intro w hI
            refine ol_c rfl (s_allocI hI [iv 0, .slice none 0 0] Try.zeroValue24 rfl ?_)
            intro b20514 w hI
            refine ⟨_, hI, subk (fun _ h => h.pickL [1, 2, 3] (by decide) rfl) ?_⟩
            intro hsub
            refine any_heavy [2] (by kernel_rfl) rfl (each1 ?_)
            intro w hI
            refine ol_c rfl (s_new hI [] 26 (fun b => slv (some b) 0 0) (by kernel_rfl) ?_)
            intro b20515 w hI
            refine ⟨_, hI, subk (fun _ h => h.pickL [2, 3, 4] (by decide) rfl) ?_⟩
            intro hsub
            refine any_heavy [5] (by kernel_rfl) rfl (each1 ?_)
            intro w hI
            refine ol_c rfl (s_appN hI Try.underlying22 (z := .agg #[iv 0, iv 0, iv 0]) (k := 3) (bytes := 24) (by kernel_rfl) rfl rfl 0 rfl rfl (Row.zero_ 3 b20515) (flat eCm y12463.2) rfl (flat_len eCm_len _) (hI.rowCells 5 rfl r16915) (flat_cell eCm_cell _) (by omega) (by omega) (n2 := y12463.2.length) (app_len0 rfl) ?_)
            intro g20516 c20517 cl20518 w hI r20519
            refine ⟨_, hI, subk (fun _ h => h.pickL [2, 3, 4] (by decide) rfl) ?_⟩
            intro hsub
            have r20519 : Row 3 g20516 y12463.2.length c20517 cl20518 (flat eCm y12463.2) := r20519
            refine alp 6 (.agg #[iv y12463.1, slv g20516 y12463.2.length c20517]) hsub rfl (by kernel_rfl) (fun _ => (by kernel_rfl)) ?_
            refine any_heavy [8] (by kernel_rfl) rfl (each1 ?_)
            intro w hI
            refine ol_c rfl (s_store hI 1 2 [iv y12463.1, slv g20516 y12463.2.length c20517] Try.sizeOf24 rfl rfl rfl rfl rfl (Nat.le_of_ble_eq_true rfl) ?_)
            intro w hI
            refine ⟨_, hI, subk (fun _ h => h.pickL [2, 3, 4] (by decide) rfl) ?_⟩
            intro hsub
            refine any_end (by kernel_rfl) (fun w hI => ?_)
            exact .inl ⟨rfl, ⟨b20514, g20516, c20517, cl20518, ⟨rfl, rfl, rfl, rfl, rfl, trivial⟩, hI.pickL [2, 5, 3, 4, 1, 0] (by decide) rfl, (r20519.to rfl rfl), hF⟩⟩
          ·intro ρ w hJ
           obtain ⟨b20247, g20248, c20249, cl20250, hag, hI, r20251, hF⟩ := hJ
           obtain ⟨ρ, rfl⟩ := hag.form; clear hag
           unfold F13j6 at hF
           refine wp_cutO (fun ρ w => ∃ (g20368 : Option Nat) (c20369 : Nat) (cl20370 : List Value) (g20373 : Option Nat) (c20374 : Nat) (cl20375 : List Value) (u20372 : List Cm), Agree ρ [(7, .pointer (some ⟨b12469, 0, none⟩)), (10, slv g20368 y12488.1.length c20369), (12, slv g12502 y12500.1.length c12503), (26, iv v19923), (27, .pointer (some ⟨b20247, 0, none⟩))] ∧ Inv [] w0 w [(some b12469, blk [iv y12463.1, slv g16912 y12463.2.length c16913] 24), (g16912, blk cl16914 26), (g20368, blk cl20370 3), (g12502, blk cl12504 3), (some b20247, blk [iv y12463.1, slv g20373 u20372.length c20374] 24), (g20373, blk cl20375 26)] ∧ (Row 1 g20368 (y12488.1.length) c20369 cl20370 (flat eInt y12488.1)) ∧ (Row 3 g20373 (u20372.length) c20374 cl20375 (flat eCm u20372)) ∧ F13j7 N (F13l4 N y12463 y12488 y12500 m4) y12463 y12500 v19923 u20372 = some r) ?_ ?_
           ·
            refine wp_seq (rgn (by kernel_rfl) (pu (iv 0) (by kernel_rfl) (seq_nil (wp_block ?_))))
            refine wp_loop (fun m ρ w => ∃ (g20455 : Option Nat) (c20456 : Nat) (cl20457 : List Value) (g20460 : Option Nat) (c20461 : Nat) (cl20462 : List Value) (u20459 : List Cm) (v20464 : Int) (mm : Nat), Agree ρ [(7, .pointer (some ⟨b12469, 0, none⟩)), (10, slv g20455 y12488.1.length c20456), (12, slv g12502 y12500.1.length c12503), (26, iv v19923), (27, .pointer (some ⟨b20247, 0, none⟩)), (28, iv v20464)] ∧ Inv [] w0 w [(some b12469, blk [iv y12463.1, slv g16912 y12463.2.length c16913] 24), (g16912, blk cl16914 26), (g20455, blk cl20457 3), (g12502, blk cl12504 3), (some b20247, blk [iv y12463.1, slv g20460 u20459.length c20461] 24), (g20460, blk cl20462 26)] ∧ (Row 1 g20455 (y12488.1.length) c20456 cl20457 (flat eInt y12488.1)) ∧ (Row 3 g20460 (u20459.length) c20461 cl20462 (flat eCm u20459)) ∧ F13l8 N (F13l4 N y12463 y12488 y12500 m4) y12463 y12488 y12500 v19923 mm u20459 v20464 = some r ∧ mm = m) (m := N) ⟨g19919, c19920, cl19921, g20248, c20249, cl20250, y12463.2, 0, N, ⟨rfl, rfl, rfl, rfl, rfl, rfl, trivial⟩, hI.pickL [0, 1, 2, 3, 4, 5] (by decide) rfl, (r19922.to rfl rfl), (r20251.to rfl rfl), hF, rfl⟩ ?_
            rintro m ρ w ⟨g20455, c20456, cl20457, g20460, c20461, cl20462, u20459, v20464, mm, hag, hI, r20458, r20463, hF, hm⟩
            subst hm; obtain ⟨ρ, rfl⟩ := hag.form; clear hag
            obtain _ | m8 := mm
            ·cases (show (none : Option Bool) = some r from hF)
            replace hF : F13b8 N (F13l4 N y12463 y12488 y12500 m4) y12463 y12488 y12500 v19923 (F13l8 N (F13l4 N y12463 y12488 y12500 m4) y12463 y12488 y12500 v19923 m8) u20459 v20464 = some r := hF; unfold F13b8 at hF
            refine wp_seq (wp_seq (rgn (by kernel_rfl) (pu (iv v20464) (by kernel_rfl) (pu (.pointer (some ⟨b20247, 1, none⟩)) (by kernel_rfl) (seq_c (s_load1 hI 4 (slv g20460 u20459.length c20461) Try.isAgg22 rfl rfl rfl ?_))))))
            refine pu (iv ((u20459.length : Nat) : Int)) (by kernel_rfl) (ifE hF (fun h8596 hF => ?_) (fun h8596 hF => ?_))
            ·
             refine seq_c (s_lss rfl rfl (fun _ => ?_) (fun h => absurd (a := v20464 < (u20459.length : Int)) h8596 h))
             refine seq_nil (wp_condT rfl (wp_skip (wp_seq (wp_block ?_))))
             refine gdE hF (fun h8604 hF => ?_)
             refine bindE hF (fun x20481 hx20482 hF => ?_)
             refine gdE hF (fun h8605 hF => ?_)
             refine bindE hF (fun x20485 hx20486 hF => ?_)
             refine gdE hF (fun h8606 hF => ?_)
             refine ckE hF (fun h8607 hF => ?_)
             refine gdE hF (fun h8608 hF => ?_)
             refine gdE hF (fun h8609 hF => ?_)
             refine ckE hF (fun h8610 hF => ?_)
             replace hI := hI.pickL [0, 1, 2, 3, 4, 5] (by decide) rfl
             refine wp_drawn2 hI [0, 1, 2, 3, 4] (by decide) rfl (by kernel_rfl) (by kernel_rfl) ?_
             intro hsub
             refine alp 0 (.pointer (some ⟨b20247, 1, none⟩)) hsub rfl (by kernel_rfl) (fun _ => (by kernel_rfl)) ?_
             refine al_light 1 (slv g20460 u20459.length c20461) hsub rfl (by kernel_rfl) (fun w hI => s_load1 hI 4 (slv g20460 u20459.length c20461) Try.isAgg22 rfl rfl rfl ⟨rfl, Below.refl _ _⟩) ?_
             refine alp 2 (iv v20464) hsub rfl (by kernel_rfl) (fun _ => (by kernel_rfl)) ?_
             refine alp 3 (.pointer (some ⟨b20247, 1, none⟩)) hsub rfl (by kernel_rfl) (fun _ => (by kernel_rfl)) ?_
             refine al_light 4 (slv g20460 u20459.length c20461) hsub rfl (by kernel_rfl) (fun w hI => s_load1 hI 4 (slv g20460 u20459.length c20461) Try.isAgg22 rfl rfl rfl ⟨rfl, Below.refl _ _⟩) ?_
             refine alp 5 (iv v20464) hsub rfl (by kernel_rfl) (fun _ => (by kernel_rfl)) ?_
             obtain ⟨b20491, rfl, he20492⟩ := r20463.at_ eCm_len (by decide) hx20482
             refine al_light 6 (.pointer (some ⟨b20491, (v20464).toNat * 3, none⟩)) hsub rfl (by kernel_rfl) (fun w hI => s_indexR (v20464).toNat Try.underlying22 Try.sizeOf26 rfl rfl (Int.toNat_of_nonneg h8604).symm (lt_n hx20482 rfl) ⟨rfl, Below.refl _ _⟩) ?_
             refine alp 7 (.pointer (some ⟨b20491, (v20464).toNat * 3 + 1, none⟩)) hsub rfl (by kernel_rfl) (fun _ => (by kernel_rfl)) ?_
             refine alp 9 (slv g20455 y12488.1.length c20456) hsub rfl (by kernel_rfl) (fun _ => (by kernel_rfl)) ?_
             refine alp 10 (iv v19923) hsub rfl (by kernel_rfl) (fun _ => (by kernel_rfl)) ?_
             obtain ⟨b20493, rfl, he20494⟩ := r20458.at_ eInt_len (by decide) hx20486
             refine al_light 11 (.pointer (some ⟨b20493, (v19923).toNat * 1, none⟩)) hsub rfl (by kernel_rfl) (fun w hI => s_indexR (v19923).toNat Try.underlying49 Try.sizeOf3 rfl rfl (Int.toNat_of_nonneg h8605).symm (lt_n hx20486 rfl) ⟨rfl, Below.refl _ _⟩) ?_
             refine al_light 12 (iv x20485) hsub rfl (by kernel_rfl) (fun w hI => s_loadR1 hI 2 (iv x20485) Try.isAgg3 rfl rfl (he20494 0 _ rfl) ⟨rfl, Below.refl _ _⟩) ?_
             refine al_light 13 (iv ((1 : Int) * 2 ^ (x20485 : Int).toNat)) hsub rfl (by kernel_rfl) (fun w hI => s_shl rfl rfl h8606 h8607 ⟨rfl, Below.refl _ _⟩) ?_
             refine any_heavy [8] (by kernel_rfl) rfl (each1 ?_)
             intro w hI
             refine ol_c rfl (s_loadR1 hI 5 (iv x20481.hrs) Try.isAgg3 rfl rfl (he20492 1 _ rfl) ?_)
             refine ⟨_, hI, subk (fun _ h => h.pickL [0, 1, 2, 3, 4] (by decide) rfl) ?_⟩
             intro hsub
             refine al_light 14 (iv (andNotI x20481.hrs ((1 : Int) * 2 ^ (x20485 : Int).toNat))) hsub rfl (by kernel_rfl) (fun w hI => s_andNot rfl rfl h8608 h8609 h8610 h8607 ⟨rfl, Below.refl _ _⟩) ?_
             refine al_light 15 (.pointer (some ⟨b20491, (v20464).toNat * 3, none⟩)) hsub rfl (by kernel_rfl) (fun w hI => s_indexR (v20464).toNat Try.underlying22 Try.sizeOf26 rfl rfl (Int.toNat_of_nonneg h8604).symm (lt_n hx20482 rfl) ⟨rfl, Below.refl _ _⟩) ?_
             refine alp 16 (.pointer (some ⟨b20491, (v20464).toNat * 3 + 1, none⟩)) hsub rfl (by kernel_rfl) (fun _ => (by kernel_rfl)) ?_
             refine any_heavy [17] (by kernel_rfl) rfl (each1 ?_)
             intro w hI
             have := lt_n hx20482 rfl
             refine ol_c rfl (s_store hI 5 1 [iv (andNotI x20481.hrs ((1 : Int) * 2 ^ (x20485 : Int).toNat))] Try.sizeOf3 rfl rfl rfl rfl rfl (r20463.roomF (no := 1) (s := 1) (by omega) (by decide)) ?_)
             intro w hI
             refine ⟨_, hI, subk (fun _ h => h.pickL [0, 1, 2, 3, 4] (by decide) rfl) ?_⟩
             intro hsub
             have r20495 := r20463.putF eCm_len (by decide) (v20464).toNat 1 (⟨x20481.fam, andNotI x20481.hrs ((1 : Int) * 2 ^ (x20485 : Int).toNat), x20481.wants⟩ : Cm) [iv (andNotI x20481.hrs ((1 : Int) * 2 ^ (x20485 : Int).toNat))] hx20482 (Nat.le_of_ble_eq_true rfl) rfl (by omega)
             refine any_end (by kernel_rfl) (fun w hI => ?_)
             refine rgn (by kernel_rfl) (pu (iv v20464) (by kernel_rfl) (ckE hF (fun h8611 hF => ?_)))
             refine seq_c (s_add rfl rfl h8611 ?_)
             refine pu (iv (v20464 + 1)) (by kernel_rfl) (seq_nil ?_)
             rw [show u20459.length = ((u20459).set (v20464).toNat (⟨x20481.fam, andNotI x20481.hrs ((1 : Int) * 2 ^ (x20485 : Int).toNat), x20481.wants⟩ : Cm)).length from (set_len rfl)] at hI
             exact ⟨rfl, m8, Nat.lt_succ_self _, ⟨some b20493, c20456, cl20457, some b20491, c20461, putCells cl20462 ((v20464).toNat * 3 + 1) [iv (andNotI x20481.hrs ((1 : Int) * 2 ^ (x20485 : Int).toNat))], (u20459).set (v20464).toNat (⟨x20481.fam, andNotI x20481.hrs ((1 : Int) * 2 ^ (x20485 : Int).toNat), x20481.wants⟩ : Cm), v20464 + 1, m8, ⟨rfl, rfl, rfl, rfl, rfl, rfl, trivial⟩, hI.pickL [0, 1, 2, 3, 4, 5] (by decide) rfl, (r20458.to rfl rfl), (r20495.to rfl (set_len rfl)), hF, rfl⟩⟩
            ·
             refine seq_c (s_lss rfl rfl (fun h => absurd (a := v20464 < (u20459.length : Int)) h h8596) (fun _ => ?_))
             refine seq_nil (wp_condF rfl (wp_exit ?_))
             exact .inl ⟨rfl, ⟨g20455, c20456, cl20457, g20460, c20461, cl20462, u20459, ⟨rfl, rfl, rfl, rfl, rfl, trivial⟩, hI.pickL [0, 1, 2, 3, 4, 5] (by decide) rfl, (r20458.to rfl rfl), (r20463.to rfl rfl), hF⟩⟩
           ·intro ρ w hJ
            obtain ⟨g20368, c20369, cl20370, g20373, c20374, cl20375, u20372, hag, hI, r20371, r20376, hF⟩ := hJ
            obtain ⟨ρ, rfl⟩ := hag.form; clear hag
            unfold F13j7 at hF
            refine wp_seq (rgn (by kernel_rfl) (seq_c (s_loadK hI 4 2 [iv y12463.1, slv g20373 u20372.length c20374] Try.isAgg24 Try.sizeOf24 rfl rfl rfl rfl ?_)))
            refine pu (slv g12502 y12500.1.length c12503) (by kernel_rfl) (bindE hF (fun y20379 hy20380 hF => ?_))
            refine seq_c (s_callv hI 44 [.agg #[iv y12463.1, slv g20373 u20372.length c20374], slv g12502 y12500.1.length c12503] (.tuple #[.bool y20379.1, iv y20379.2]) (by kernel_rfl) (L44 _ y12463.1 (g20373.map fun b => ⟨b, 0, none⟩) c20374 u20372 (g12502.map fun b => ⟨b, 0, none⟩) c12503 y12500.1 (hI.rowCells 5 rfl r20376) (len_le rfl r20376.big) (len_le rfl r20376.cap) (hI.rowCells 3 rfl r12505) (len_le rfl r12505.big) (len_le rfl r12505.cap) N _ hy20380) ?_)
            intro w hI
            refine pu (.tuple #[.bool y20379.1, iv y20379.2]) (by kernel_rfl) (pu (.bool y20379.1) (by kernel_rfl) (pu (iv y20379.2) (by kernel_rfl) (pu (.bool y20379.1) (by kernel_rfl) (pu (iv y20379.2) (by kernel_rfl) (seq_nil (wp_seq (rgn (by kernel_rfl) (pu (iv y20379.2) (by kernel_rfl) (ifE hF (fun h8556 hF => ?_) (fun h8556 hF => ?_))))))))))
            ·
             refine seq_c (s_neq rfl rfl (fun h => absurd (a := y20379.2 = 0) h8556 h) (fun _ => ?_))
             refine pu (.bool false) (by kernel_rfl) (puo (.bool y20379.1) ⟨(by kernel_rfl), (by kernel_rfl)⟩ (ifE hF (fun h8557 hF => ?_) (fun h8557 hF => ?_)))
             ·
              refine seq_on (by kernel_rfl) (s_not (a := true) (congrArg Value.bool h8557) ?_)
              refine pu (.bool false) (by kernel_rfl) (seq_nil (wp_condF rfl (wp_skip ?_)))
              exact .inl ⟨rfl, ⟨g20368, c20369, cl20370, ⟨rfl, rfl, rfl, rfl, trivial⟩, hI.pickL [0, 1, 2, 3] (by decide) rfl, (r20371.to rfl rfl), hF⟩⟩
             ·
              refine seq_on (by kernel_rfl) (s_not (a := false) (congrArg Value.bool (Bool.eq_false_iff.2 h8557)) ?_)
              refine pu (.bool true) (by kernel_rfl) (seq_nil (wp_condT rfl (wp_seq (rgn (by kernel_rfl) (pu (.bool false) (by kernel_rfl) (seq_nil (wp_ret ?_)))))))
              replace hF := Option.some.inj hF; subst hF
              exact ⟨.bool false, Ret.r1 rfl rfl, ⟨rfl, hI.below⟩⟩
            ·
             refine seq_c (s_neq rfl rfl (fun _ => ?_) (fun h => absurd (a := y20379.2 = 0) h h8556))
             refine pu (.bool true) (by kernel_rfl) (of_ (by kernel_rfl) (of_ (by kernel_rfl) (pu (.bool true) (by kernel_rfl) (seq_nil (wp_condT rfl (wp_seq (rgn (by kernel_rfl) (pu (.bool false) (by kernel_rfl) (seq_nil ?_)))))))))
             refine wp_ret ?_
             replace hF := Option.some.inj hF; subst hF
             exact ⟨.bool false, Ret.r1 rfl rfl, ⟨rfl, hI.below⟩⟩
         ·intro ρ w hJ
          obtain ⟨g20220, c20221, cl20222, hag, hI, r20223, hF⟩ := hJ
          obtain ⟨ρ, rfl⟩ := hag.form; clear hag
          unfold F13j5 at hF
          refine rgn (by kernel_rfl) (pu (iv v19923) (by kernel_rfl) (ckE hF (fun h8498 hF => ?_)))
          refine seq_c (s_add rfl rfl h8498 ?_)
          refine pu (iv (v19923 + 1)) (by kernel_rfl) (seq_nil ?_)
          exact ⟨rfl, m4, Nat.lt_succ_self _, ⟨g20220, c20221, cl20222, v19923 + 1, m4, ⟨rfl, rfl, rfl, rfl, trivial⟩, hI.pickL [0, 1, 2, 3] (by decide) rfl, (r20223.to rfl rfl), hF, rfl⟩⟩
        ·
         refine seq_c (s_lss rfl rfl (fun h => absurd (a := v19923 < (y12488.1.length : Int)) h h8383) (fun _ => ?_))
         refine seq_nil (wp_condF rfl (wp_exit ?_))
         exact .inl ⟨rfl, ⟨trivial, hI.pickL [] (by decide) rfl, hF⟩⟩
       ·intro ρ w hJ
        obtain ⟨hag, hI, hF⟩ := hJ
        obtain ⟨ρ, rfl⟩ := hag.form; clear hag
        unfold F13j3 at hF
        refine wp_seq (rgn (by kernel_rfl) (bindE hF (fun y18720 hy18721 hF => ?_)))
        refine seq_c (s_callv hI 25 [] (.bool y18720) (by kernel_rfl) (L25 _ N _ hy18721) ?_)
        intro w hI
        refine pu (.bool y18720) (by kernel_rfl) (seq_nil (wp_ret ?_))
        replace hF := Option.some.inj hF; subst hF
        exact ⟨.bool y18720, Ret.r1 rfl rfl, ⟨rfl, hI.below⟩⟩
    ·
     refine seq_on (by kernel_rfl) (s_neq rfl rfl (fun _ => ?_) (fun h => absurd (a := (y12476.1.length : Int) = y12463.1) h h5302))
     refine pu (.bool true) (by kernel_rfl) (seq_nil (wp_condT rfl (wp_seq (rgn (by kernel_rfl) (pu (.bool false) (by kernel_rfl) (seq_nil (wp_ret ?_)))))))
     replace hF := Option.some.inj hF; subst hF
     exact ⟨.bool false, Ret.r1 rfl rfl, ⟨rfl, hI.below⟩⟩
   ·
    refine seq_on (by kernel_rfl) (s_neq rfl rfl (fun _ => ?_) (fun h => absurd (a := y12500.2 = 0) h h5301))
    refine pu (.bool true) (by kernel_rfl) (pu (.bool true) (by kernel_rfl) (of_ (by kernel_rfl) (of_ (by kernel_rfl) (of_ (by kernel_rfl) (of_ (by kernel_rfl) (of_ (by kernel_rfl) (pu (.bool true) (by kernel_rfl) (seq_nil (wp_condT rfl ?_)))))))))
    refine wp_seq (rgn (by kernel_rfl) (pu (.bool false) (by kernel_rfl) (seq_nil (wp_ret ?_))))
    replace hF := Option.some.inj hF; subst hF
    exact ⟨.bool false, Ret.r1 rfl rfl, ⟨rfl, hI.below⟩⟩
  ·
   refine seq_on (by kernel_rfl) (s_neq rfl rfl (fun _ => ?_) (fun h => absurd (a := y12488.2 = 0) h h5300))
   refine pu (.bool true) (by kernel_rfl) (pu (.bool true) (by kernel_rfl) (of_ (by kernel_rfl) (of_ (by kernel_rfl) (pu (.bool true) (by kernel_rfl) (pu (.bool true) (by kernel_rfl) (of_ (by kernel_rfl) (of_ (by kernel_rfl) (of_ (by kernel_rfl) (of_ (by kernel_rfl) ?_)))))))))
   refine of_ (by kernel_rfl) (pu (.bool true) (by kernel_rfl) (seq_nil (wp_condT rfl (wp_seq (rgn (by kernel_rfl) (pu (.bool false) (by kernel_rfl) (seq_nil (wp_ret ?_))))))))
   replace hF := Option.some.inj hF; subst hF
   exact ⟨.bool false, Ret.r1 rfl rfl, ⟨rfl, hI.below⟩⟩
 ·
  refine seq_c (s_neq rfl rfl (fun _ => ?_) (fun h => absurd (a := y12476.2 = 0) h h5299))
  refine pu (.bool true) (by kernel_rfl) (of_ (by kernel_rfl) (of_ (by kernel_rfl) (pu (.bool true) (by kernel_rfl) (pu (.bool true) (by kernel_rfl) (of_ (by kernel_rfl) (of_ (by kernel_rfl) (pu (.bool true) (by kernel_rfl) (pu (.bool true) (by kernel_rfl) (of_ (by kernel_rfl) ?_)))))))))
  refine of_ (by kernel_rfl) (of_ (by kernel_rfl) (of_ (by kernel_rfl) (of_ (by kernel_rfl) (pu (.bool true) (by kernel_rfl) (seq_nil (wp_condT rfl (wp_seq (rgn (by kernel_rfl) (pu (.bool false) (by kernel_rfl) ?_)))))))))
  refine seq_nil (wp_ret ?_)
  replace hF := Option.some.inj hF; subst hF
  exact ⟨.bool false, Ret.r1 rfl rfl, ⟨rfl, hI.below⟩⟩

end Go.K
