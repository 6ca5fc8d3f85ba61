/- That the functions do what the pure definitions say: walks, as tools/lift.py writes them. No condition. -/
import Derived.Test.YtofnbcfjdngakaaPWd
namespace Go.K
open Go.Proofs Go.RowKit
set_option linter.unusedVariables false
set_option linter.unusedSimpArgs false
set_option maxRecDepth 100000
attribute [local irreducible] Seq Step CallV AnyE opX
theorem L12 (w0 : World) (p0 : Int) (Ap1 : Option Addr) (cp1 : Nat) (lp1 : List A2) (p2 : A2) (hCp1 : Cells w0 Ap1 (flat eA2 lp1)) (hMp1 : lp1.length ≤ 9223372036854775807) (hKp1 : lp1.length ≤ cp1) (N : Nat) (r : Bool) (hF : F12 N p0 lp1 p2 = some r) : Does Try.prog 12 [.int .i64 p0, .slice Ap1 lp1.length cp1, .agg #[.int .i64 p2.a, .int .i64 p2.b]] w0 fun v w => v = .bool r ∧ Below w0.heap.size w0 w := by
 refine calls_of (n := 204) Try.func12 rfl Try.ntmps12 rfl ?_
 have hI := Inv.start w0
 unfold F12 at hF
 refine wp_seq (rgn (by kernel_rfl) (seq_c (s_boxI hI [iv p2.a, iv p2.b] rfl ?_)))
 intro b4805 w hI
 refine pu (.bool false) (by kernel_rfl) (seq_nil (wp_seq (rgn (by kernel_rfl) (pu (iv p0) (by kernel_rfl) (pu (.slice Ap1 lp1.length cp1) (by kernel_rfl) (bindE hF (fun y4813 hy4814 hF => ?_)))))))
 refine seq_c (s_call 60 [iv p0, .slice Ap1 lp1.length cp1] (by kernel_rfl) (L60 _ p0 Ap1 cp1 lp1 (hCp1.inv0 hI) hMp1 hKp1 N _ hy4814) ?_)
 rintro v w ⟨g4815, c4816, cl4817, rfl, hN, r4818⟩
 have hI := hI.join hN; clear hN
 refine seq_c (s_allocI hI [iv 0, .slice none 0 0] Try.zeroValue24 rfl ?_)
 intro b4819 w hI
 refine seq_c (s_store hI 0 2 [iv y4813.1, slv g4815 y4813.2.length c4816] Try.sizeOf24 rfl rfl rfl rfl rfl (Nat.le_of_ble_eq_true rfl) ?_)
 intro w hI
 refine seq_nil (wp_seq (wp_cutO (fun ρ w => Agree ρ [(5, .pointer (some ⟨b4805, 0, none⟩)), (7, .pointer (some ⟨b4819, 0, none⟩)), (40, .bool true)] ∧ Inv [] w0 w [(some b4805, blk [iv p2.a, iv p2.b] 77), (some b4819, blk [iv y4813.1, slv g4815 y4813.2.length c4816] 24), (g4815, blk cl4817 26)] ∧ F12j1 N = some r) ?_ ?_))
 ·
  refine rgn (by kernel_rfl) (pu (.pointer (some ⟨b4819, 1, none⟩)) (by kernel_rfl) (seq_c (s_load1 hI 0 (slv g4815 y4813.2.length c4816) Try.isAgg22 rfl rfl rfl ?_)))
  refine pu (iv ((y4813.2.length : Nat) : Int)) (by kernel_rfl) (ifE hF (fun h1053 hF => ?_) (fun h1053 hF => ?_))
  ·
   refine seq_c (s_eql rfl rfl (fun _ => ?_) (fun h => absurd (a := (y4813.2.length : Int) = 0) h1053 h))
   refine pu (.bool true) (by kernel_rfl) (of_ (by kernel_rfl) (of_ (by kernel_rfl) (of_ (by kernel_rfl) (pu (.bool true) (by kernel_rfl) (seq_nil ?_)))))
   exact .inl ⟨rfl, ⟨⟨rfl, rfl, rfl, trivial⟩, hI.pickL [2, 0, 1] (by decide) rfl, hF⟩⟩
  ·
   refine seq_c (s_eql rfl rfl (fun h => absurd (a := (y4813.2.length : Int) = 0) h h1053) (fun _ => ?_))
   refine pu (.bool false) (by kernel_rfl) (puo (.pointer (some ⟨b4819, 0, none⟩)) ⟨(by kernel_rfl), (by kernel_rfl)⟩ (seq_on (by kernel_rfl) (s_load1 hI 0 (iv y4813.1) Try.isAgg3 rfl rfl rfl ?_)))
   refine ifE hF (fun h1054 hF => ?_) (fun h1054 hF => ?_)
   ·
    refine seq_on (by kernel_rfl) (s_eql rfl rfl (fun _ => ?_) (fun h => absurd (a := y4813.1 = 0) h1054 h))
    refine pu (.bool true) (by kernel_rfl) (seq_nil ?_)
    exact .inl ⟨rfl, ⟨⟨rfl, rfl, rfl, trivial⟩, hI.pickL [2, 0, 1] (by decide) rfl, hF⟩⟩
   ·
    refine seq_on (by kernel_rfl) (s_eql rfl rfl (fun h => absurd (a := y4813.1 = 0) h h1054) (fun _ => ?_))
    refine pu (.bool false) (by kernel_rfl) (seq_nil (.inr ?_))
    refine wp_condF rfl (wp_skip (wp_seq (rgn (by kernel_rfl) (pu (.pointer (some ⟨b4805, 0, none⟩)) (by kernel_rfl) (seq_c (s_load1 hI 2 (iv p2.a) Try.isAgg3 rfl rfl rfl ?_))))))
    refine pu (.pointer (some ⟨b4819, 1, none⟩)) (by kernel_rfl) (seq_c (s_load1 hI 0 (slv g4815 y4813.2.length c4816) Try.isAgg22 rfl rfl rfl ?_))
    refine pu (iv ((y4813.2.length : Nat) : Int)) (by kernel_rfl) (bindE hF (fun y4830 hy4831 hF => ?_))
    refine seq_c (s_callv hI 59 [iv p2.a, iv (y4813.2.length : Int)] (iv y4830) (by kernel_rfl) (L59 _ p2.a (y4813.2.length : Int) _ hy4831) ?_)
    intro w hI
    refine pu (iv y4830) (by kernel_rfl) (seq_nil (wp_cutO (fun ρ w => ∃ (b4855 : Nat) (g4856 : Option Nat) (c4857 : Nat) (cl4858 : List Value), Agree ρ [(5, .pointer (some ⟨b4805, 0, none⟩)), (7, .pointer (some ⟨b4819, 0, none⟩)), (8, iv y4830), (9, .pointer (some ⟨b4855, 0, none⟩))] ∧ Inv [] w0 w [(some b4805, blk [iv p2.a, iv p2.b] 77), (some b4819, blk [iv y4813.1, slv g4815 y4813.2.length c4816] 24), (g4815, blk cl4817 26), (some b4855, blk [iv y4813.1, slv g4856 y4813.2.length c4857] 24), (g4856, blk cl4858 26)] ∧ (Row 3 g4856 (y4813.2.length) c4857 cl4858 (flat eCm y4813.2)) ∧ F12j2 p2 N y4813 y4830 = some r) ?_ ?_))
    ·
     refine gdE hF (fun h2092 hF => ?_)
     replace hI := hI.pickL [0, 2, 1] (by decide) rfl
     refine wp_drawn2 hI [0, 1] (by decide) rfl (by kernel_rfl) (by kernel_rfl) ?_
     intro hsub
     refine alp 0 (.pointer (some ⟨b4819, 0, none⟩)) hsub rfl (by kernel_rfl) (fun _ => (by kernel_rfl)) ?_
     refine al_light 1 (iv y4813.1) hsub rfl (by kernel_rfl) (fun w hI => s_load1 hI 0 (iv y4813.1) Try.isAgg3 rfl rfl rfl ⟨rfl, Below.refl _ _⟩) ?_
     refine alp 3 (.pointer (some ⟨b4819, 1, none⟩)) hsub rfl (by kernel_rfl) (fun _ => (by kernel_rfl)) ?_
     refine al_light 4 (slv g4815 y4813.2.length c4816) hsub rfl (by kernel_rfl) (fun w hI => s_load1 hI 0 (slv g4815 y4813.2.length c4816) Try.isAgg22 rfl rfl rfl ⟨rfl, Below.refl _ _⟩) ?_
     refine any_heavy [2, 7] (by kernel_rfl) rfl (each2 ?_ ?_)
     ·intro w hI
      refine ol_c rfl (s_new hI [] 26 (fun b => slv (some b) 0 0) (by kernel_rfl) ?_)
      intro b9592 w hI
      refine ⟨_, hI, subk (fun _ h => h.pickL [1, 2] (by decide) rfl) ?_⟩
      intro hsub
      refine any_heavy [5, 7] (by kernel_rfl) rfl (each2 ?_ ?_)
      ·intro w hI
       refine ol_c rfl (s_appN hI Try.underlying22 (z := .agg #[iv 0, iv 0, iv 0]) (k := 3) (bytes := 24) (by kernel_rfl) rfl rfl 0 rfl rfl (Row.zero_ 3 b9592) (flat eCm y4813.2) rfl (flat_len eCm_len _) (hI.rowCells 3 rfl r4818) (flat_cell eCm_cell _) (by omega) (by omega) (n2 := y4813.2.length) (app_len0 rfl) ?_)
       intro g9593 c9594 cl9595 w hI r9596
       refine ⟨_, hI, subk (fun _ h => h.pickL [1, 2] (by decide) rfl) ?_⟩
       intro hsub
       have r9596 : Row 3 g9593 y4813.2.length c9594 cl9595 (flat eCm y4813.2) := r9596
       refine alp 6 (.agg #[iv y4813.1, slv g9593 y4813.2.length c9594]) hsub rfl (by kernel_rfl) (fun _ => (by kernel_rfl)) ?_
       refine any_heavy [7] (by kernel_rfl) rfl (each1 ?_)
       intro w hI
       refine ol_c rfl (s_allocI hI [iv 0, .slice none 0 0] Try.zeroValue24 rfl ?_)
       intro b9597 w hI
       refine ⟨_, hI, subk (fun _ h => h.pickL [2, 3] (by decide) rfl) ?_⟩
       intro hsub
       refine any_heavy [8] (by kernel_rfl) rfl (each1 ?_)
       intro w hI
       refine ol_c rfl (s_store hI 0 2 [iv y4813.1, slv g9593 y4813.2.length c9594] Try.sizeOf24 rfl rfl rfl rfl rfl (Nat.le_of_ble_eq_true rfl) ?_)
       intro w hI
       refine ⟨_, hI, subk (fun _ h => h.pickL [2, 3] (by decide) rfl) ?_⟩
       intro hsub
       refine any_end (by kernel_rfl) (fun w hI => ?_)
       exact .inl ⟨rfl, ⟨b9597, g9593, c9594, cl9595, ⟨rfl, rfl, rfl, rfl, trivial⟩, hI.pickL [3, 2, 4, 0, 1] (by decide) rfl, (r9596.to rfl rfl), hF⟩⟩
      ·intro w hI
       refine ol_c rfl (s_allocI hI [iv 0, .slice none 0 0] Try.zeroValue24 rfl ?_)
       intro b9598 w hI
       refine ⟨_, hI, subk (fun _ h => h.pickL [2, 3] (by decide) rfl) ?_⟩
       intro hsub
       refine any_heavy [5] (by kernel_rfl) rfl (each1 ?_)
       intro w hI
       refine ol_c rfl (s_appN hI Try.underlying22 (z := .agg #[iv 0, iv 0, iv 0]) (k := 3) (bytes := 24) (by kernel_rfl) rfl rfl 1 rfl rfl (Row.zero_ 3 b9592) (flat eCm y4813.2) rfl (flat_len eCm_len _) (hI.rowCells 4 rfl r4818) (flat_cell eCm_cell _) (by omega) (by omega) (n2 := y4813.2.length) (app_len0 rfl) ?_)
       intro g9599 c9600 cl9601 w hI r9602
       refine ⟨_, hI, subk (fun _ h => h.pickL [2, 3] (by decide) rfl) ?_⟩
       intro hsub
       have r9602 : Row 3 g9599 y4813.2.length c9600 cl9601 (flat eCm y4813.2) := r9602
       refine alp 6 (.agg #[iv y4813.1, slv g9599 y4813.2.length c9600]) hsub rfl (by kernel_rfl) (fun _ => (by kernel_rfl)) ?_
       refine any_heavy [8] (by kernel_rfl) rfl (each1 ?_)
       intro w hI
       refine ol_c rfl (s_store hI 0 2 [iv y4813.1, slv g9599 y4813.2.length c9600] Try.sizeOf24 rfl rfl rfl rfl rfl (Nat.le_of_ble_eq_true rfl) ?_)
       intro w hI
       refine ⟨_, hI, subk (fun _ h => h.pickL [2, 3] (by decide) rfl) ?_⟩
       intro hsub
       refine any_end (by kernel_rfl) (fun w hI => ?_)
       exact .inl ⟨rfl, ⟨b9598, g9599, c9600, cl9601, ⟨rfl, rfl, rfl, rfl, trivial⟩, hI.pickL [3, 2, 4, 0, 1] (by decide) rfl, (r9602.to rfl rfl), hF⟩⟩
     ·intro w hI
      refine ol_c rfl (s_allocI hI [iv 0, .slice none 0 0] Try.zeroValue24 rfl ?_)
      intro b9603 w hI
      refine ⟨_, hI, subk (fun _ h => h.pickL [1, 2] (by decide) rfl) ?_⟩
      intro hsub
      refine any_heavy [2] (by kernel_rfl) rfl (each1 ?_)
      intro w hI
      refine ol_c rfl (s_new hI [] 26 (fun b => slv (some b) 0 0) (by kernel_rfl) ?_)
      intro b9604 w hI
      refine ⟨_, hI, subk (fun _ h => h.pickL [2, 3] (by decide) rfl) ?_⟩
      intro hsub
      refine any_heavy [5] (by kernel_rfl) rfl (each1 ?_)
      intro w hI
      refine ol_c rfl (s_appN hI Try.underlying22 (z := .agg #[iv 0, iv 0, iv 0]) (k := 3) (bytes := 24) (by kernel_rfl) rfl rfl 0 rfl rfl (Row.zero_ 3 b9604) (flat eCm y4813.2) rfl (flat_len eCm_len _) (hI.rowCells 4 rfl r4818) (flat_cell eCm_cell _) (by omega) (by omega) (n2 := y4813.2.length) (app_len0 rfl) ?_)
      intro g9605 c9606 cl9607 w hI r9608
      refine ⟨_, hI, subk (fun _ h => h.pickL [2, 3] (by decide) rfl) ?_⟩
      intro hsub
      have r9608 : Row 3 g9605 y4813.2.length c9606 cl9607 (flat eCm y4813.2) := r9608
      refine alp 6 (.agg #[iv y4813.1, slv g9605 y4813.2.length c9606]) hsub rfl (by kernel_rfl) (fun _ => (by kernel_rfl)) ?_
      refine any_heavy [8] (by kernel_rfl) rfl (each1 ?_)
      intro w hI
      refine ol_c rfl (s_store hI 1 2 [iv y4813.1, slv g9605 y4813.2.length c9606] Try.sizeOf24 rfl rfl rfl rfl rfl (Nat.le_of_ble_eq_true rfl) ?_)
      intro w hI
      refine ⟨_, hI, subk (fun _ h => h.pickL [2, 3] (by decide) rfl) ?_⟩
      intro hsub
      refine any_end (by kernel_rfl) (fun w hI => ?_)
      exact .inl ⟨rfl, ⟨b9603, g9605, c9606, cl9607, ⟨rfl, rfl, rfl, rfl, trivial⟩, hI.pickL [3, 2, 4, 1, 0] (by decide) rfl, (r9608.to rfl rfl), hF⟩⟩
    ·intro ρ w hJ
     obtain ⟨b4855, g4856, c4857, cl4858, hag, hI, r4859, hF⟩ := hJ
     obtain ⟨ρ, rfl⟩ := hag.form; clear hag
     unfold F12j2 at hF
     refine wp_seq (gdE hF (fun h1062 hF => ?_))
     refine bindE hF (fun x4872 hx4873 hF => ?_)
     refine bindE hF (fun y4876 hy4877 hF => ?_)
     refine gdE hF (fun h1063 hF => ?_)
     refine ckE hF (fun h1064 hF => ?_)
     refine gdE hF (fun h1065 hF => ?_)
     refine gdE hF (fun h1066 hF => ?_)
     refine ckE hF (fun h1067 hF => ?_)
     replace hI := hI.pickL [0, 1, 2, 3, 4] (by decide) rfl
     refine wp_drawn2 hI [0, 1, 2, 3] (by decide) rfl (by kernel_rfl) (by kernel_rfl) ?_
     intro hsub
     refine alp 0 (.pointer (some ⟨b4855, 1, none⟩)) hsub rfl (by kernel_rfl) (fun _ => (by kernel_rfl)) ?_
     refine al_light 1 (slv g4856 y4813.2.length c4857) hsub rfl (by kernel_rfl) (fun w hI => s_load1 hI 3 (slv g4856 y4813.2.length c4857) Try.isAgg22 rfl rfl rfl ⟨rfl, Below.refl _ _⟩) ?_
     refine alp 2 (iv y4830) hsub rfl (by kernel_rfl) (fun _ => (by kernel_rfl)) ?_
     refine alp 3 (.pointer (some ⟨b4855, 1, none⟩)) hsub rfl (by kernel_rfl) (fun _ => (by kernel_rfl)) ?_
     refine al_light 4 (slv g4856 y4813.2.length c4857) hsub rfl (by kernel_rfl) (fun w hI => s_load1 hI 3 (slv g4856 y4813.2.length c4857) Try.isAgg22 rfl rfl rfl ⟨rfl, Below.refl _ _⟩) ?_
     refine alp 5 (iv y4830) hsub rfl (by kernel_rfl) (fun _ => (by kernel_rfl)) ?_
     obtain ⟨b4880, rfl, he4881⟩ := r4859.at_ eCm_len (by decide) hx4873
     refine al_light 6 (.pointer (some ⟨b4880, (y4830).toNat * 3, none⟩)) hsub rfl (by kernel_rfl) (fun w hI => s_indexR (y4830).toNat Try.underlying22 Try.sizeOf26 rfl rfl (Int.toNat_of_nonneg h1062).symm (lt_n hx4873 rfl) ⟨rfl, Below.refl _ _⟩) ?_
     refine alp 7 (.pointer (some ⟨b4880, (y4830).toNat * 3 + 1, none⟩)) hsub rfl (by kernel_rfl) (fun _ => (by kernel_rfl)) ?_
     refine alp 9 (.pointer (some ⟨b4805, 1, none⟩)) hsub rfl (by kernel_rfl) (fun _ => (by kernel_rfl)) ?_
     refine al_light 10 (iv p2.b) hsub rfl (by kernel_rfl) (fun w hI => s_load1 hI 0 (iv p2.b) Try.isAgg3 rfl rfl rfl ⟨rfl, Below.refl _ _⟩) ?_
     refine alp 11 (.pointer (some ⟨b4819, 0, none⟩)) hsub rfl (by kernel_rfl) (fun _ => (by kernel_rfl)) ?_
     refine al_light 12 (iv y4813.1) hsub rfl (by kernel_rfl) (fun w hI => s_load1 hI 1 (iv y4813.1) Try.isAgg3 rfl rfl rfl ⟨rfl, Below.refl _ _⟩) ?_
     refine al_light 13 (iv y4876) hsub rfl (by kernel_rfl) (fun w hI => s_call 59 [iv p2.b, iv y4813.1] (by kernel_rfl) (L59 _ p2.b y4813.1 _ hy4877) (fun v' w' h => h)) ?_
     refine al_light 14 (iv ((1 : Int) * 2 ^ (y4876 : Int).toNat)) hsub rfl (by kernel_rfl) (fun w hI => s_shl rfl rfl h1063 h1064 ⟨rfl, Below.refl _ _⟩) ?_
     refine any_heavy [8] (by kernel_rfl) rfl (each1 ?_)
     intro w hI
     refine ol_c rfl (s_loadR1 hI 4 (iv x4872.hrs) Try.isAgg3 rfl rfl (he4881 1 _ rfl) ?_)
     refine ⟨_, hI, subk (fun _ h => h.pickL [0, 1, 2, 3] (by decide) rfl) ?_⟩
     intro hsub
     refine al_light 15 (iv (orI x4872.hrs ((1 : Int) * 2 ^ (y4876 : Int).toNat))) hsub rfl (by kernel_rfl) (fun w hI => s_or rfl rfl h1065 h1066 h1067 h1064 ⟨rfl, Below.refl _ _⟩) ?_
     refine al_light 16 (.pointer (some ⟨b4880, (y4830).toNat * 3, none⟩)) hsub rfl (by kernel_rfl) (fun w hI => s_indexR (y4830).toNat Try.underlying22 Try.sizeOf26 rfl rfl (Int.toNat_of_nonneg h1062).symm (lt_n hx4873 rfl) ⟨rfl, Below.refl _ _⟩) ?_
     refine alp 17 (.pointer (some ⟨b4880, (y4830).toNat * 3 + 1, none⟩)) hsub rfl (by kernel_rfl) (fun _ => (by kernel_rfl)) ?_
     refine any_heavy [18] (by kernel_rfl) rfl (each1 ?_)
     intro w hI
     have := lt_n hx4873 rfl
     refine ol_c rfl (s_store hI 4 1 [iv (orI x4872.hrs ((1 : Int) * 2 ^ (y4876 : Int).toNat))] Try.sizeOf3 rfl rfl rfl rfl rfl (r4859.roomF (no := 1) (s := 1) (by omega) (by decide)) ?_)
     intro w hI
     refine ⟨_, hI, subk (fun _ h => h.pickL [0, 1, 2, 3] (by decide) rfl) ?_⟩
     intro hsub
     have r4882 := r4859.putF eCm_len (by decide) (y4830).toNat 1 (⟨x4872.fam, orI x4872.hrs ((1 : Int) * 2 ^ (y4876 : Int).toNat), x4872.wants⟩ : Cm) [iv (orI x4872.hrs ((1 : Int) * 2 ^ (y4876 : Int).toNat))] hx4873 (Nat.le_of_ble_eq_true rfl) rfl (by omega)
     refine any_end (by kernel_rfl) (fun w hI => ?_)
     refine wp_seq (rgn (by kernel_rfl) (pu (.pointer (some ⟨b4819, 1, none⟩)) (by kernel_rfl) (seq_c (s_load1 hI 1 (slv g4815 y4813.2.length c4816) Try.isAgg22 rfl rfl rfl ?_))))
     refine pu (iv y4830) (by kernel_rfl) ?_
     obtain ⟨b4884, rfl, he4885⟩ := r4818.at_ eCm_len (by decide) hx4873
     refine seq_c (s_indexR (y4830).toNat Try.underlying22 Try.sizeOf26 rfl rfl (Int.toNat_of_nonneg h1062).symm (lt_n hx4873 rfl) ?_)
     refine pu (.pointer (some ⟨b4884, (y4830).toNat * 3, none⟩)) (by kernel_rfl) (seq_c (s_loadR1 hI 2 (iv x4872.fam) Try.isAgg3 rfl rfl (he4885 0 _ rfl) ?_))
     refine pu (iv x4872.fam) (by kernel_rfl) (seq_nil (wp_seq (rgn (by kernel_rfl) (seq_c (s_loadK hI 1 2 [iv y4813.1, slv (some b4884) y4813.2.length c4816] Try.isAgg24 Try.sizeOf24 rfl rfl rfl rfl ?_)))))
     refine pu (iv x4872.fam) (by kernel_rfl) (bindE hF (fun y4893 hy4894 hF => ?_))
     refine seq_c (s_call 16 [.agg #[iv y4813.1, slv (some b4884) y4813.2.length c4816], iv x4872.fam] (by kernel_rfl) (L16 _ y4813.1 ((some b4884).map fun b => ⟨b, 0, none⟩) c4816 y4813.2 x4872.fam (hI.rowCells 2 rfl r4818) (len_le rfl r4818.big) (len_le rfl r4818.cap) N _ hy4894) ?_)
     rintro v w ⟨g4895, c4896, cl4897, rfl, hN, r4898⟩
     have hI := hI.join hN; clear hN
     refine pu (.tuple #[.agg #[iv y4893.1, slv g4895 y4893.2.1.length c4896], iv y4893.2.2]) (by kernel_rfl) (pu (.agg #[iv y4893.1, slv g4895 y4893.2.1.length c4896]) (by kernel_rfl) (pu (iv y4893.2.2) (by kernel_rfl) (seq_c (s_allocI hI [iv 0, .slice none 0 0] Try.zeroValue24 rfl ?_))))
     intro b4899 w hI
     refine seq_c (s_store hI 0 2 [iv y4893.1, slv g4895 y4893.2.1.length c4896] Try.sizeOf24 rfl rfl rfl rfl rfl (Nat.le_of_ble_eq_true rfl) ?_)
     intro w hI
     refine pu (iv y4893.2.2) (by kernel_rfl) (seq_nil (wp_seq (rgn (by kernel_rfl) (seq_c (s_loadK hI 3 2 [iv y4813.1, slv (some b4884) y4813.2.length c4816] Try.isAgg24 Try.sizeOf24 rfl rfl rfl rfl ?_)))))
     refine bindE hF (fun y4902 hy4903 hF => ?_)
     refine seq_c (s_callv hI 36 [.agg #[iv y4813.1, slv (some b4884) y4813.2.length c4816]] (.tuple #[iv y4902.1, iv y4902.2]) (by kernel_rfl) (L36 _ y4813.1 ((some b4884).map fun b => ⟨b, 0, none⟩) c4816 y4813.2 (hI.rowCells 4 rfl r4818) (len_le rfl r4818.big) (len_le rfl r4818.cap) N _ hy4903) ?_)
     intro w hI
     refine pu (.tuple #[iv y4902.1, iv y4902.2]) (by kernel_rfl) (pu (iv y4902.1) (by kernel_rfl) (pu (iv y4902.2) (by kernel_rfl) (pu (iv y4902.1) (by kernel_rfl) (pu (iv y4902.2) (by kernel_rfl) (seq_nil (wp_seq (rgn (by kernel_rfl) (seq_c (s_loadK hI 5 2 [iv y4813.1, slv (some b4880) y4813.2.length c4857] Try.isAgg24 Try.sizeOf24 rfl rfl rfl rfl ?_)))))))))
     refine bindE hF (fun y4906 hy4907 hF => ?_)
     refine seq_c (s_callv hI 36 [.agg #[iv y4813.1, slv (some b4880) y4813.2.length c4857]] (.tuple #[iv y4906.1, iv y4906.2]) (by kernel_rfl) (Does.cast (L36 _ y4813.1 ((some b4880).map fun b => ⟨b, 0, none⟩) c4857 ((y4813.2).set (y4830).toNat (⟨x4872.fam, orI x4872.hrs ((1 : Int) * 2 ^ (y4876 : Int).toNat), x4872.wants⟩ : Cm)) (hI.rowCells 6 rfl r4882) (len_le (set_len rfl) r4882.big) (len_le (set_len rfl) r4882.cap) N _ hy4907) (by first | (simp only [List.length_set, sortI_len] <;> rfl) | rfl)) ?_)
     intro w hI
     refine pu (.tuple #[iv y4906.1, iv y4906.2]) (by kernel_rfl) (pu (iv y4906.1) (by kernel_rfl) (pu (iv y4906.2) (by kernel_rfl) (pu (iv y4906.1) (by kernel_rfl) (pu (iv y4906.2) (by kernel_rfl) (seq_nil (wp_seq (rgn (by kernel_rfl) (seq_c (s_loadK hI 0 2 [iv y4893.1, slv g4895 y4893.2.1.length c4896] Try.isAgg24 Try.sizeOf24 rfl rfl rfl rfl ?_)))))))))
     refine bindE hF (fun y4910 hy4911 hF => ?_)
     refine seq_c (s_callv hI 36 [.agg #[iv y4893.1, slv g4895 y4893.2.1.length c4896]] (.tuple #[iv y4910.1, iv y4910.2]) (by kernel_rfl) (L36 _ y4893.1 (g4895.map fun b => ⟨b, 0, none⟩) c4896 y4893.2.1 (hI.rowCells 1 rfl r4898) (len_le rfl r4898.big) (len_le rfl r4898.cap) N _ hy4911) ?_)
     intro w hI
     refine pu (.tuple #[iv y4910.1, iv y4910.2]) (by kernel_rfl) (pu (iv y4910.1) (by kernel_rfl) (pu (iv y4910.2) (by kernel_rfl) (pu (iv y4910.1) (by kernel_rfl) (pu (iv y4910.2) (by kernel_rfl) (seq_nil (wp_seq (rgn (by kernel_rfl) (seq_c (s_loadK hI 3 2 [iv y4813.1, slv (some b4884) y4813.2.length c4816] Try.isAgg24 Try.sizeOf24 rfl rfl rfl rfl ?_)))))))))
     refine pu (iv x4872.fam) (by kernel_rfl) (bindE hF (fun y4918 hy4919 hF => ?_))
     refine seq_c (s_call 57 [.agg #[iv y4813.1, slv (some b4884) y4813.2.length c4816], iv x4872.fam] (by kernel_rfl) (L57 _ y4813.1 ((some b4884).map fun b => ⟨b, 0, none⟩) c4816 y4813.2 x4872.fam (hI.rowCells 4 rfl r4818) (len_le rfl r4818.big) (len_le rfl r4818.cap) N _ hy4919) ?_)
     rintro v w ⟨g4920, c4921, cl4922, rfl, hN, r4923⟩
     have hI := hI.join hN; clear hN
     refine pu (.tuple #[slv g4920 y4918.1.length c4921, iv y4918.2]) (by kernel_rfl) (pu (slv g4920 y4918.1.length c4921) (by kernel_rfl) (pu (iv y4918.2) (by kernel_rfl) (pu (slv g4920 y4918.1.length c4921) (by kernel_rfl) (pu (iv y4918.2) (by kernel_rfl) (seq_nil (wp_seq (rgn (by kernel_rfl) (seq_c (s_loadK hI 4 2 [iv y4813.1, slv (some b4884) y4813.2.length c4816] Try.isAgg24 Try.sizeOf24 rfl rfl rfl rfl ?_)))))))))
     refine bindE hF (fun y4930 hy4931 hF => ?_)
     refine seq_c (s_call 38 [.agg #[iv y4813.1, slv (some b4884) y4813.2.length c4816]] (by kernel_rfl) (L38 _ y4813.1 ((some b4884).map fun b => ⟨b, 0, none⟩) c4816 y4813.2 (hI.rowCells 5 rfl r4818) (len_le rfl r4818.big) (len_le rfl r4818.cap) N _ hy4931) ?_)
     rintro v w ⟨g4932, c4933, cl4934, rfl, hN, r4935⟩
     have hI := hI.join hN; clear hN
     refine pu (.tuple #[slv g4932 y4930.1.length c4933, iv y4930.2]) (by kernel_rfl) (pu (slv g4932 y4930.1.length c4933) (by kernel_rfl) (pu (iv y4930.2) (by kernel_rfl) (pu (slv g4932 y4930.1.length c4933) (by kernel_rfl) (pu (iv y4930.2) (by kernel_rfl) (seq_nil (wp_seq (rgn (by kernel_rfl) (seq_c (s_loadK hI 2 2 [iv y4893.1, slv g4895 y4893.2.1.length c4896] Try.isAgg24 Try.sizeOf24 rfl rfl rfl rfl ?_)))))))))
     refine bindE hF (fun y4942 hy4943 hF => ?_)
     refine seq_c (s_call 38 [.agg #[iv y4893.1, slv g4895 y4893.2.1.length c4896]] (by kernel_rfl) (L38 _ y4893.1 (g4895.map fun b => ⟨b, 0, none⟩) c4896 y4893.2.1 (hI.rowCells 3 rfl r4898) (len_le rfl r4898.big) (len_le rfl r4898.cap) N _ hy4943) ?_)
     rintro v w ⟨g4944, c4945, cl4946, rfl, hN, r4947⟩
     have hI := hI.join hN; clear hN
     refine pu (.tuple #[slv g4944 y4942.1.length c4945, iv y4942.2]) (by kernel_rfl) (pu (slv g4944 y4942.1.length c4945) (by kernel_rfl) (pu (iv y4942.2) (by kernel_rfl) (pu (slv g4944 y4942.1.length c4945) (by kernel_rfl) (pu (iv y4942.2) (by kernel_rfl) (seq_nil (wp_seq (wp_seq (rgn (by kernel_rfl) (pu (iv y4893.2.2) (by kernel_rfl) ?_)))))))))
     refine ifE hF (fun h1101 hF => ?_) (fun h1101 hF => ?_)
     ·
      refine seq_c (s_neq rfl rfl (fun h => absurd (a := y4893.2.2 = 0) h1101 h) (fun _ => ?_))
      refine pu (.bool false) (by kernel_rfl) (puo (iv y4902.2) ⟨(by kernel_rfl), (by kernel_rfl)⟩ (ifE hF (fun h1102 hF => ?_) (fun h1102 hF => ?_)))
      ·
       refine seq_on (by kernel_rfl) (s_neq rfl rfl (fun h => absurd (a := y4902.2 = 0) h1102 h) (fun _ => ?_))
       refine pu (.bool false) (by kernel_rfl) (pu (.bool false) (by kernel_rfl) (puo (iv y4906.2) ⟨(by kernel_rfl), (by kernel_rfl)⟩ (ifE hF (fun h1103 hF => ?_) (fun h1103 hF => ?_))))
       ·
        refine seq_on (by kernel_rfl) (s_neq rfl rfl (fun h => absurd (a := y4906.2 = 0) h1103 h) (fun _ => ?_))
        refine pu (.bool false) (by kernel_rfl) (pu (.bool false) (by kernel_rfl) (puo (iv y4910.2) ⟨(by kernel_rfl), (by kernel_rfl)⟩ (ifE hF (fun h1104 hF => ?_) (fun h1104 hF => ?_))))
        ·
         refine seq_on (by kernel_rfl) (s_neq rfl rfl (fun h => absurd (a := y4910.2 = 0) h1104 h) (fun _ => ?_))
         refine pu (.bool false) (by kernel_rfl) (pu (.bool false) (by kernel_rfl) (puo (iv y4918.2) ⟨(by kernel_rfl), (by kernel_rfl)⟩ (ifE hF (fun h1105 hF => ?_) (fun h1105 hF => ?_))))
         ·
          refine seq_on (by kernel_rfl) (s_neq rfl rfl (fun h => absurd (a := y4918.2 = 0) h1105 h) (fun _ => ?_))
          refine pu (.bool false) (by kernel_rfl) (pu (.bool false) (by kernel_rfl) (puo (iv y4930.2) ⟨(by kernel_rfl), (by kernel_rfl)⟩ (ifE hF (fun h1106 hF => ?_) (fun h1106 hF => ?_))))
          ·
           refine seq_on (by kernel_rfl) (s_neq rfl rfl (fun h => absurd (a := y4930.2 = 0) h1106 h) (fun _ => ?_))
           refine pu (.bool false) (by kernel_rfl) (pu (.bool false) (by kernel_rfl) (puo (iv y4942.2) ⟨(by kernel_rfl), (by kernel_rfl)⟩ (ifE hF (fun h1107 hF => ?_) (fun h1107 hF => ?_))))
           ·
            refine seq_on (by kernel_rfl) (s_neq rfl rfl (fun h => absurd (a := y4942.2 = 0) h1107 h) (fun _ => ?_))
            refine pu (.bool false) (by kernel_rfl) (pu (.bool false) (by kernel_rfl) (puo (iv y4906.1) ⟨(by kernel_rfl), (by kernel_rfl)⟩ (puo (iv y4902.1) ⟨(by kernel_rfl), (by kernel_rfl)⟩ (ifE hF (fun h1108 hF => ?_) (fun h1108 hF => ?_)))))
            ·
             refine seq_on (by kernel_rfl) (s_lss rfl rfl (fun _ => ?_) (fun h => absurd (a := y4906.1 < y4902.1) h1108 h))
             refine pu (.bool true) (by kernel_rfl) (pu (.bool true) (by kernel_rfl) (of_ (by kernel_rfl) (of_ (by kernel_rfl) (of_ (by kernel_rfl) (pu (.bool true) (by kernel_rfl) (pu (.bool true) (by kernel_rfl) (of_ (by kernel_rfl) (of_ (by kernel_rfl) (of_ (by kernel_rfl) ?_)))))))))
             refine of_ (by kernel_rfl) (of_ (by kernel_rfl) (of_ (by kernel_rfl) (pu (.bool true) (by kernel_rfl) (seq_nil (wp_condT rfl (wp_seq (rgn (by kernel_rfl) (pu (.bool false) (by kernel_rfl) (seq_nil ?_)))))))))
             refine wp_ret ?_
             replace hF := Option.some.inj hF; subst hF
             exact ⟨.bool false, Ret.r1 rfl rfl, ⟨rfl, hI.below⟩⟩
            ·
             refine seq_on (by kernel_rfl) (s_lss rfl rfl (fun h => absurd (a := y4906.1 < y4902.1) h h1108) (fun _ => ?_))
             refine pu (.bool false) (by kernel_rfl) (pu (.bool false) (by kernel_rfl) (puo (iv y4910.1) ⟨(by kernel_rfl), (by kernel_rfl)⟩ (puo (iv y4902.1) ⟨(by kernel_rfl), (by kernel_rfl)⟩ (ifE hF (fun h1109 hF => ?_) (fun h1109 hF => ?_)))))
             ·
              refine seq_on (by kernel_rfl) (s_lss rfl rfl (fun _ => ?_) (fun h => absurd (a := y4910.1 < y4902.1) h1109 h))
              refine pu (.bool true) (by kernel_rfl) (pu (.bool true) (by kernel_rfl) (of_ (by kernel_rfl) (of_ (by kernel_rfl) (of_ (by kernel_rfl) (of_ (by kernel_rfl) (of_ (by kernel_rfl) (of_ (by kernel_rfl) (pu (.bool true) (by kernel_rfl) (seq_nil ?_)))))))))
              refine wp_condT rfl (wp_seq (rgn (by kernel_rfl) (pu (.bool false) (by kernel_rfl) (seq_nil (wp_ret ?_)))))
              replace hF := Option.some.inj hF; subst hF
              exact ⟨.bool false, Ret.r1 rfl rfl, ⟨rfl, hI.below⟩⟩
             ·
              refine seq_on (by kernel_rfl) (s_lss rfl rfl (fun h => absurd (a := y4910.1 < y4902.1) h h1109) (fun _ => ?_))
              refine pu (.bool false) (by kernel_rfl) (pu (.bool false) (by kernel_rfl) (puo (slv g4944 y4942.1.length c4945) ⟨(by kernel_rfl), (by kernel_rfl)⟩ (puo (iv ((y4942.1.length : Nat) : Int)) ⟨(by kernel_rfl), (by kernel_rfl)⟩ (ckE hF (fun h1110 hF => ?_)))))
              refine seq_on (by kernel_rfl) (s_add rfl rfl h1110 ?_)
              refine puo (slv g4932 y4930.1.length c4933) ⟨(by kernel_rfl), (by kernel_rfl)⟩ (puo (iv ((y4930.1.length : Nat) : Int)) ⟨(by kernel_rfl), (by kernel_rfl)⟩ (ifE hF (fun h1111 hF => ?_) (fun h1111 hF => ?_)))
              ·
               refine seq_on (by kernel_rfl) (s_neq rfl rfl (fun h => absurd (a := ((y4942.1.length : Int) + 1) = (y4930.1.length : Int)) h1111 h) (fun _ => ?_))
               refine pu (.bool false) (by kernel_rfl) (seq_nil (wp_condF rfl (wp_skip (wp_seq (rgn (by kernel_rfl) (pu (iv 0) (by kernel_rfl) (seq_nil (wp_cutO (fun ρ w => Agree ρ [] ∧ Inv [] w0 w [] ∧ F12j3 N = some r) ?_ ?_))))))))
               ·
                refine wp_seq (rgn (by kernel_rfl) (pu (iv 0) (by kernel_rfl) (seq_nil (wp_block ?_))))
                refine wp_loop (fun m ρ w => ∃ (g8809 : Option Nat) (c8810 : Nat) (cl8811 : List Value) (g8813 : Option Nat) (c8814 : Nat) (cl8815 : List Value) (g8817 : Option Nat) (c8818 : Nat) (cl8819 : List Value) (v8821 : Int) (v8822 : Int) (mm : Nat), Agree ρ [(7, .pointer (some ⟨b4819, 0, none⟩)), (8, iv y4830), (19, slv g8809 y4918.1.length c8810), (21, slv g8813 y4930.1.length c8814), (23, slv g8817 y4942.1.length c8818), (25, iv v8821), (26, iv v8822)] ∧ Inv [] w0 w [(some b4819, blk [iv y4813.1, slv (some b4884) y4813.2.length c4816] 24), (some b4884, blk cl4817 26), (g8809, blk cl8811 3), (g8813, blk cl8815 3), (g8817, blk cl8819 3)] ∧ (Row 1 g8809 (y4918.1.length) c8810 cl8811 (flat eInt y4918.1)) ∧ (Row 1 g8813 (y4930.1.length) c8814 cl8815 (flat eInt y4930.1)) ∧ (Row 1 g8817 (y4942.1.length) c8818 cl8819 (flat eInt y4942.1)) ∧ F12l4 N y4813 y4830 y4918 y4930 y4942 mm v8821 v8822 = some r ∧ mm = m) (m := N) ⟨g4920, c4921, cl4922, g4932, c4933, cl4934, g4944, c4945, cl4946, 0, 0, N, ⟨rfl, rfl, rfl, rfl, rfl, rfl, rfl, trivial⟩, hI.pickL [6, 7, 2, 1, 0] (by decide) rfl, (r4923.to rfl rfl), (r4935.to rfl rfl), (r4947.to rfl rfl), hF, rfl⟩ ?_
                rintro m ρ w ⟨g8809, c8810, cl8811, g8813, c8814, cl8815, g8817, c8818, cl8819, v8821, v8822, mm, hag, hI, r8812, r8816, r8820, hF, hm⟩
                subst hm; obtain ⟨ρ, rfl⟩ := hag.form; clear hag
                obtain _ | m4 := mm
                ·cases (show (none : Option Bool) = some r from hF)
                replace hF : F12b4 N y4813 y4830 y4918 y4930 y4942 (F12l4 N y4813 y4830 y4918 y4930 y4942 m4) v8821 v8822 = some r := hF; unfold F12b4 at hF
                refine wp_seq (wp_seq (rgn (by kernel_rfl) (pu (iv v8822) (by kernel_rfl) (pu (.pointer (some ⟨b4819, 1, none⟩)) (by kernel_rfl) (seq_c (s_load1 hI 0 (slv (some b4884) y4813.2.length c4816) Try.isAgg22 rfl rfl rfl ?_))))))
                refine pu (iv ((y4813.2.length : Nat) : Int)) (by kernel_rfl) (ifE hF (fun h1912 hF => ?_) (fun h1912 hF => ?_))
                ·
                 refine seq_c (s_lss rfl rfl (fun _ => ?_) (fun h => absurd (a := v8822 < (y4813.2.length : Int)) h1912 h))
                 refine seq_nil (wp_condT rfl (wp_skip (wp_cutO (fun ρ w => ∃ (g9198 : Option Nat) (c9199 : Nat) (cl9200 : List Value) (g9202 : Option Nat) (c9203 : Nat) (cl9204 : List Value) (g9206 : Option Nat) (c9207 : Nat) (cl9208 : List Value) (v9210 : Int), Agree ρ [(7, .pointer (some ⟨b4819, 0, none⟩)), (8, iv y4830), (19, slv g9198 y4918.1.length c9199), (21, slv g9202 y4930.1.length c9203), (23, slv g9206 y4942.1.length c9207), (25, iv v9210), (26, iv v8822)] ∧ Inv [] w0 w [(some b4819, blk [iv y4813.1, slv (some b4884) y4813.2.length c4816] 24), (some b4884, blk cl4817 26), (g9198, blk cl9200 3), (g9202, blk cl9204 3), (g9206, blk cl9208 3)] ∧ (Row 1 g9198 (y4918.1.length) c9199 cl9200 (flat eInt y4918.1)) ∧ (Row 1 g9202 (y4930.1.length) c9203 cl9204 (flat eInt y4930.1)) ∧ (Row 1 g9206 (y4942.1.length) c9207 cl9208 (flat eInt y4942.1)) ∧ F12j5 (F12l4 N y4813 y4830 y4918 y4930 y4942 m4) v8822 v9210 = some r) ?_ ?_)))
                 ·
                  refine wp_block ?_
                  refine wp_seq (wp_seq (rgn (by kernel_rfl) (pu (iv v8822) (by kernel_rfl) (pu (iv y4830) (by kernel_rfl) (ifE hF (fun h2006 hF => ?_) (fun h2006 hF => ?_))))))
                  ·
                   refine seq_c (s_eql rfl rfl (fun _ => ?_) (fun h => absurd (a := v8822 = y4830) h2006 h))
                   refine seq_nil (wp_condT rfl (wp_exit ?_))
                   exact .inl ⟨rfl, ⟨g8809, c8810, cl8811, g8813, c8814, cl8815, g8817, c8818, cl8819, v8821, ⟨rfl, rfl, rfl, rfl, rfl, rfl, rfl, trivial⟩, hI.pickL [0, 1, 2, 3, 4] (by decide) rfl, (r8812.to rfl rfl), (r8816.to rfl rfl), (r8820.to rfl rfl), hF⟩⟩
                  ·
                   refine seq_c (s_eql rfl rfl (fun h => absurd (a := v8822 = y4830) h h2006) (fun _ => ?_))
                   refine seq_nil (wp_condF rfl (wp_skip (wp_seq (rgn (by kernel_rfl) (pu (.bool false) (by kernel_rfl) (seq_nil (wp_cutO (fun ρ w => ∃ (g9316 : Option Nat) (c9317 : Nat) (cl9318 : List Value) (v9320 : Bool), Agree ρ [(7, .pointer (some ⟨b4819, 0, none⟩)), (8, iv y4830), (19, slv g9316 y4918.1.length c9317), (21, slv g8813 y4930.1.length c8814), (23, slv g8817 y4942.1.length c8818), (25, iv v8821), (26, iv v8822), (27, .bool v9320)] ∧ Inv [] w0 w [(some b4819, blk [iv y4813.1, slv (some b4884) y4813.2.length c4816] 24), (some b4884, blk cl4817 26), (g9316, blk cl9318 3), (g8813, blk cl8815 3), (g8817, blk cl8819 3)] ∧ (Row 1 g9316 (y4918.1.length) c9317 cl9318 (flat eInt y4918.1)) ∧ F12j6 (F12l4 N y4813 y4830 y4918 y4930 y4942 m4) y4930 y4942 v8821 v8822 v9320 = some r) ?_ ?_)))))))
                   ·
                    refine wp_seq (rgn (by kernel_rfl) (pu (iv 0) (by kernel_rfl) (seq_nil (wp_block ?_))))
                    refine wp_loop (fun m ρ w => ∃ (g9549 : Option Nat) (c9550 : Nat) (cl9551 : List Value) (v9553 : Bool) (v9554 : Int) (mm : Nat), Agree ρ [(7, .pointer (some ⟨b4819, 0, none⟩)), (8, iv y4830), (19, slv g9549 y4918.1.length c9550), (21, slv g8813 y4930.1.length c8814), (23, slv g8817 y4942.1.length c8818), (25, iv v8821), (26, iv v8822), (27, .bool v9553), (28, iv v9554)] ∧ Inv [] w0 w [(some b4819, blk [iv y4813.1, slv (some b4884) y4813.2.length c4816] 24), (some b4884, blk cl4817 26), (g9549, blk cl9551 3), (g8813, blk cl8815 3), (g8817, blk cl8819 3)] ∧ (Row 1 g9549 (y4918.1.length) c9550 cl9551 (flat eInt y4918.1)) ∧ F12l8 (F12l4 N y4813 y4830 y4918 y4930 y4942 m4) y4813 y4918 y4930 y4942 v8821 v8822 mm v9553 v9554 = some r ∧ mm = m) (m := N) ⟨g8809, c8810, cl8811, false, 0, N, ⟨rfl, rfl, rfl, rfl, rfl, rfl, rfl, rfl, rfl, trivial⟩, hI.pickL [0, 1, 2, 3, 4] (by decide) rfl, (r8812.to rfl rfl), hF, rfl⟩ ?_
                    rintro m ρ w ⟨g9549, c9550, cl9551, v9553, v9554, mm, hag, hI, r9552, hF, hm⟩
                    subst hm; obtain ⟨ρ, rfl⟩ := hag.form; clear hag
                    obtain _ | m8 := mm
                    ·cases (show (none : Option Bool) = some r from hF)
                    replace hF : F12b8 (F12l4 N y4813 y4830 y4918 y4930 y4942 m4) y4813 y4918 y4930 y4942 v8821 v8822 (F12l8 (F12l4 N y4813 y4830 y4918 y4930 y4942 m4) y4813 y4918 y4930 y4942 v8821 v8822 m8) v9553 v9554 = some r := hF; unfold F12b8 at hF
                    refine wp_seq (wp_seq (rgn (by kernel_rfl) (pu (iv v9554) (by kernel_rfl) (pu (slv g9549 y4918.1.length c9550) (by kernel_rfl) (pu (iv ((y4918.1.length : Nat) : Int)) (by kernel_rfl) (ifE hF (fun h2084 hF => ?_) (fun h2084 hF => ?_)))))))
                    ·
                     refine seq_c (s_lss rfl rfl (fun _ => ?_) (fun h => absurd (a := v9554 < (y4918.1.length : Int)) h2084 h))
                     refine seq_nil (wp_condT rfl (wp_skip (wp_cutO (fun ρ w => ∃ (g9568 : Option Nat) (c9569 : Nat) (cl9570 : List Value) (v9572 : Bool), Agree ρ [(7, .pointer (some ⟨b4819, 0, none⟩)), (8, iv y4830), (19, slv g9568 y4918.1.length c9569), (21, slv g8813 y4930.1.length c8814), (23, slv g8817 y4942.1.length c8818), (25, iv v8821), (26, iv v8822), (27, .bool v9572), (28, iv v9554)] ∧ Inv [] w0 w [(some b4819, blk [iv y4813.1, slv (some b4884) y4813.2.length c4816] 24), (some b4884, blk cl4817 26), (g9568, blk cl9570 3), (g8813, blk cl8815 3), (g8817, blk cl8819 3)] ∧ (Row 1 g9568 (y4918.1.length) c9569 cl9570 (flat eInt y4918.1)) ∧ F12j9 (F12l8 (F12l4 N y4813 y4830 y4918 y4930 y4942 m4) y4813 y4918 y4930 y4942 v8821 v8822 m8) v9554 v9572 = some r) ?_ ?_)))
                     ·
                      refine wp_block ?_
                      have hG := hF; rcases Bool.eq_false_or_eq_true v9553 with rfl | rfl
                      ·
                       have hF := hG; clear hG
                       refine ifE hF (fun _ hF => ?_) (fun h => absurd rfl h)
                       refine wp_drawn2 hI [0, 1, 2, 3, 4] (by decide) rfl (by kernel_rfl) (by kernel_rfl) ?_
                       intro hsub
                       refine alp 0 (.bool true) hsub rfl (by kernel_rfl) (fun _ => (by kernel_rfl)) ?_
                       refine alp 1 (.bool true) hsub rfl (by kernel_rfl) (fun _ => (by kernel_rfl)) ?_
                       refine al_off 2 hsub rfl (by kernel_rfl) (by kernel_rfl) ?_
                       refine al_off 3 hsub rfl (by kernel_rfl) (by kernel_rfl) ?_
                       refine al_off 4 hsub rfl (by kernel_rfl) (by kernel_rfl) ?_
                       refine al_off 5 hsub rfl (by kernel_rfl) (by kernel_rfl) ?_
                       refine al_off 6 hsub rfl (by kernel_rfl) (by kernel_rfl) ?_
                       refine al_off 7 hsub rfl (by kernel_rfl) (by kernel_rfl) ?_
                       refine al_off 8 hsub rfl (by kernel_rfl) (by kernel_rfl) ?_
                       refine al_off 9 hsub rfl (by kernel_rfl) (by kernel_rfl) ?_
                       refine al_off 10 hsub rfl (by kernel_rfl) (by kernel_rfl) ?_
                       refine al_off 11 hsub rfl (by kernel_rfl) (by kernel_rfl) ?_
                       refine al_off 12 hsub rfl (by kernel_rfl) (by kernel_rfl) ?_
                       refine alp 13 (.bool true) hsub rfl (by kernel_rfl) (fun _ => (by kernel_rfl)) ?_
                       refine alp 14 (.bool true) hsub rfl (by kernel_rfl) (fun _ => (by kernel_rfl)) ?_
                       refine any_end (by kernel_rfl) (fun w hI => ?_)
                       exact .inl ⟨rfl, ⟨g9549, c9550, cl9551, true, ⟨rfl, rfl, rfl, rfl, rfl, rfl, rfl, rfl, rfl, trivial⟩, hI.pickL [0, 1, 2, 3, 4] (by decide) rfl, (r9552.to rfl rfl), hF⟩⟩
                      ·
                       have hF := hG; clear hG
                       refine ifE hF (fun h => absurd h (by decide)) (fun _ hF => ?_)
                       refine gdE hF (fun h2089 hF => ?_)
                       refine bindE hF (fun x9573 hx9574 hF => ?_)
                       refine gdE hF (fun h2090 hF => ?_)
                       refine bindE hF (fun x9577 hx9578 hF => ?_)
                       refine ifE hF (fun h2091 hF => ?_) (fun h2091 hF => ?_)
                       ·
                        refine wp_drawn2 hI [0, 1, 2, 3, 4] (by decide) rfl (by kernel_rfl) (by kernel_rfl) ?_
                        intro hsub
                        refine alp 0 (.bool false) hsub rfl (by kernel_rfl) (fun _ => (by kernel_rfl)) ?_
                        refine alp 1 (.bool false) hsub rfl (by kernel_rfl) (fun _ => (by kernel_rfl)) ?_
                        refine al_on 2 (slv g9549 y4918.1.length c9550) hsub rfl (by kernel_rfl) (by kernel_rfl) (fun w hI => s_pure (slv g9549 y4918.1.length c9550) (by kernel_rfl) ⟨rfl, Below.refl _ _⟩) ?_
                        refine al_on 3 (iv v9554) hsub rfl (by kernel_rfl) (by kernel_rfl) (fun w hI => s_pure (iv v9554) (by kernel_rfl) ⟨rfl, Below.refl _ _⟩) ?_
                        obtain ⟨b9580, rfl, he9581⟩ := r9552.at_ eInt_len (by decide) hx9574
                        refine al_on 4 (.pointer (some ⟨b9580, (v9554).toNat * 1, none⟩)) hsub rfl (by kernel_rfl) (by kernel_rfl) (fun w hI => s_indexR (v9554).toNat Try.underlying49 Try.sizeOf3 rfl rfl (Int.toNat_of_nonneg h2089).symm (lt_n hx9574 rfl) ⟨rfl, Below.refl _ _⟩) ?_
                        refine al_on 5 (iv x9573) hsub rfl (by kernel_rfl) (by kernel_rfl) (fun w hI => s_loadR1 hI 2 (iv x9573) Try.isAgg3 rfl rfl (he9581 0 _ rfl) ⟨rfl, Below.refl _ _⟩) ?_
                        refine al_on 6 (.pointer (some ⟨b4819, 1, none⟩)) hsub rfl (by kernel_rfl) (by kernel_rfl) (fun w hI => s_pure (.pointer (some ⟨b4819, 1, none⟩)) (by kernel_rfl) ⟨rfl, Below.refl _ _⟩) ?_
                        refine al_on 7 (slv (some b4884) y4813.2.length c4816) hsub rfl (by kernel_rfl) (by kernel_rfl) (fun w hI => s_load1 hI 0 (slv (some b4884) y4813.2.length c4816) Try.isAgg22 rfl rfl rfl ⟨rfl, Below.refl _ _⟩) ?_
                        refine al_on 8 (iv v8822) hsub rfl (by kernel_rfl) (by kernel_rfl) (fun w hI => s_pure (iv v8822) (by kernel_rfl) ⟨rfl, Below.refl _ _⟩) ?_
                        have he9582 := r4818.atS eCm_len (by decide) hx9578
                        refine al_on 9 (.pointer (some ⟨b4884, (v8822).toNat * 3, none⟩)) hsub rfl (by kernel_rfl) (by kernel_rfl) (fun w hI => s_indexR (v8822).toNat Try.underlying22 Try.sizeOf26 rfl rfl (Int.toNat_of_nonneg h2090).symm (lt_n hx9578 rfl) ⟨rfl, Below.refl _ _⟩) ?_
                        refine al_on 10 (.pointer (some ⟨b4884, (v8822).toNat * 3, none⟩)) hsub rfl (by kernel_rfl) (by kernel_rfl) (fun w hI => s_pure (.pointer (some ⟨b4884, (v8822).toNat * 3, none⟩)) (by kernel_rfl) ⟨rfl, Below.refl _ _⟩) ?_
                        refine al_on 11 (iv x9577.fam) hsub rfl (by kernel_rfl) (by kernel_rfl) (fun w hI => s_loadR1 hI 1 (iv x9577.fam) Try.isAgg3 rfl rfl (he9582 0 _ rfl) ⟨rfl, Below.refl _ _⟩) ?_
                        refine al_on 12 (.bool true) hsub rfl (by kernel_rfl) (by kernel_rfl) (fun w hI => s_eql rfl rfl (fun _ => ⟨rfl, Below.refl _ _⟩) (fun h => absurd (a := x9573 = x9577.fam) h2091 h)) ?_
                        refine alp 13 (.bool true) hsub rfl (by kernel_rfl) (fun _ => (by kernel_rfl)) ?_
                        refine alp 14 (.bool true) hsub rfl (by kernel_rfl) (fun _ => (by kernel_rfl)) ?_
                        refine any_end (by kernel_rfl) (fun w hI => ?_)
                        exact .inl ⟨rfl, ⟨some b9580, c9550, cl9551, true, ⟨rfl, rfl, rfl, rfl, rfl, rfl, rfl, rfl, rfl, trivial⟩, hI.pickL [0, 1, 2, 3, 4] (by decide) rfl, (r9552.to rfl rfl), hF⟩⟩
                       ·
                        refine wp_drawn2 hI [0, 1, 2, 3, 4] (by decide) rfl (by kernel_rfl) (by kernel_rfl) ?_
                        intro hsub
                        refine alp 0 (.bool false) hsub rfl (by kernel_rfl) (fun _ => (by kernel_rfl)) ?_
                        refine alp 1 (.bool false) hsub rfl (by kernel_rfl) (fun _ => (by kernel_rfl)) ?_
                        refine al_on 2 (slv g9549 y4918.1.length c9550) hsub rfl (by kernel_rfl) (by kernel_rfl) (fun w hI => s_pure (slv g9549 y4918.1.length c9550) (by kernel_rfl) ⟨rfl, Below.refl _ _⟩) ?_
                        refine al_on 3 (iv v9554) hsub rfl (by kernel_rfl) (by kernel_rfl) (fun w hI => s_pure (iv v9554) (by kernel_rfl) ⟨rfl, Below.refl _ _⟩) ?_
                        obtain ⟨b9583, rfl, he9584⟩ := r9552.at_ eInt_len (by decide) hx9574
                        refine al_on 4 (.pointer (some ⟨b9583, (v9554).toNat * 1, none⟩)) hsub rfl (by kernel_rfl) (by kernel_rfl) (fun w hI => s_indexR (v9554).toNat Try.underlying49 Try.sizeOf3 rfl rfl (Int.toNat_of_nonneg h2089).symm (lt_n hx9574 rfl) ⟨rfl, Below.refl _ _⟩) ?_
                        refine al_on 5 (iv x9573) hsub rfl (by kernel_rfl) (by kernel_rfl) (fun w hI => s_loadR1 hI 2 (iv x9573) Try.isAgg3 rfl rfl (he9584 0 _ rfl) ⟨rfl, Below.refl _ _⟩) ?_
                        refine al_on 6 (.pointer (some ⟨b4819, 1, none⟩)) hsub rfl (by kernel_rfl) (by kernel_rfl) (fun w hI => s_pure (.pointer (some ⟨b4819, 1, none⟩)) (by kernel_rfl) ⟨rfl, Below.refl _ _⟩) ?_
                        refine al_on 7 (slv (some b4884) y4813.2.length c4816) hsub rfl (by kernel_rfl) (by kernel_rfl) (fun w hI => s_load1 hI 0 (slv (some b4884) y4813.2.length c4816) Try.isAgg22 rfl rfl rfl ⟨rfl, Below.refl _ _⟩) ?_
                        refine al_on 8 (iv v8822) hsub rfl (by kernel_rfl) (by kernel_rfl) (fun w hI => s_pure (iv v8822) (by kernel_rfl) ⟨rfl, Below.refl _ _⟩) ?_
                        have he9585 := r4818.atS eCm_len (by decide) hx9578
                        refine al_on 9 (.pointer (some ⟨b4884, (v8822).toNat * 3, none⟩)) hsub rfl (by kernel_rfl) (by kernel_rfl) (fun w hI => s_indexR (v8822).toNat Try.underlying22 Try.sizeOf26 rfl rfl (Int.toNat_of_nonneg h2090).symm (lt_n hx9578 rfl) ⟨rfl, Below.refl _ _⟩) ?_
                        refine al_on 10 (.pointer (some ⟨b4884, (v8822).toNat * 3, none⟩)) hsub rfl (by kernel_rfl) (by kernel_rfl) (fun w hI => s_pure (.pointer (some ⟨b4884, (v8822).toNat * 3, none⟩)) (by kernel_rfl) ⟨rfl, Below.refl _ _⟩) ?_
                        refine al_on 11 (iv x9577.fam) hsub rfl (by kernel_rfl) (by kernel_rfl) (fun w hI => s_loadR1 hI 1 (iv x9577.fam) Try.isAgg3 rfl rfl (he9585 0 _ rfl) ⟨rfl, Below.refl _ _⟩) ?_
                        refine al_on 12 (.bool false) hsub rfl (by kernel_rfl) (by kernel_rfl) (fun w hI => s_eql rfl rfl (fun h => absurd (a := x9573 = x9577.fam) h h2091) (fun _ => ⟨rfl, Below.refl _ _⟩)) ?_
                        refine alp 13 (.bool false) hsub rfl (by kernel_rfl) (fun _ => (by kernel_rfl)) ?_
                        refine alp 14 (.bool false) hsub rfl (by kernel_rfl) (fun _ => (by kernel_rfl)) ?_
                        refine any_end (by kernel_rfl) (fun w hI => ?_)
                        exact .inl ⟨rfl, ⟨some b9583, c9550, cl9551, false, ⟨rfl, rfl, rfl, rfl, rfl, rfl, rfl, rfl, rfl, trivial⟩, hI.pickL [0, 1, 2, 3, 4] (by decide) rfl, (r9552.to rfl rfl), hF⟩⟩
                     ·intro ρ w hJ
                      obtain ⟨g9568, c9569, cl9570, v9572, hag, hI, r9571, hF⟩ := hJ
                      obtain ⟨ρ, rfl⟩ := hag.form; clear hag
                      unfold F12j9 at hF
                      refine rgn (by kernel_rfl) (pu (iv v9554) (by kernel_rfl) (ckE hF (fun h2088 hF => ?_)))
                      refine seq_c (s_add rfl rfl h2088 ?_)
                      refine pu (iv (v9554 + 1)) (by kernel_rfl) (seq_nil ?_)
                      exact ⟨rfl, m8, Nat.lt_succ_self _, ⟨g9568, c9569, cl9570, v9572, v9554 + 1, m8, ⟨rfl, rfl, rfl, rfl, rfl, rfl, rfl, rfl, rfl, trivial⟩, hI.pickL [0, 1, 2, 3, 4] (by decide) rfl, (r9571.to rfl rfl), hF, rfl⟩⟩
                    ·
                     refine seq_c (s_lss rfl rfl (fun h => absurd (a := v9554 < (y4918.1.length : Int)) h h2084) (fun _ => ?_))
                     refine seq_nil (wp_condF rfl (wp_exit ?_))
                     exact .inl ⟨rfl, ⟨g9549, c9550, cl9551, v9553, ⟨rfl, rfl, rfl, rfl, rfl, rfl, rfl, rfl, trivial⟩, hI.pickL [0, 1, 2, 3, 4] (by decide) rfl, (r9552.to rfl rfl), hF⟩⟩
                   ·intro ρ w hJ
                    obtain ⟨g9316, c9317, cl9318, v9320, hag, hI, r9319, hF⟩ := hJ
                    obtain ⟨ρ, rfl⟩ := hag.form; clear hag
                    unfold F12j6 at hF
                    refine wp_seq (wp_cutO (fun ρ w => ∃ (g9441 : Option Nat) (c9442 : Nat) (cl9443 : List Value) (g9445 : Option Nat) (c9446 : Nat) (cl9447 : List Value), Agree ρ [(7, .pointer (some ⟨b4819, 0, none⟩)), (8, iv y4830), (19, slv g9316 y4918.1.length c9317), (21, slv g9441 y4930.1.length c9442), (23, slv g9445 y4942.1.length c9446), (25, iv v8821), (26, iv v8822), (200, .bool false)] ∧ Inv [] w0 w [(some b4819, blk [iv y4813.1, slv (some b4884) y4813.2.length c4816] 24), (some b4884, blk cl4817 26), (g9316, blk cl9318 3), (g9441, blk cl9443 3), (g9445, blk cl9447 3)] ∧ (Row 1 g9441 (y4930.1.length) c9442 cl9443 (flat eInt y4930.1)) ∧ (Row 1 g9445 (y4942.1.length) c9446 cl9447 (flat eInt y4942.1)) ∧ F12j7 (F12l4 N y4813 y4830 y4918 y4930 y4942 m4) v8821 v8822 = some r) ?_ ?_)
                    ·
                     have hG := hF; rcases Bool.eq_false_or_eq_true v9320 with rfl | rfl
                     ·
                      have hF := hG; clear hG
                      refine ifE hF (fun _ hF => ?_) (fun h => absurd rfl h)
                      refine gdE hF (fun h2056 hF => ?_)
                      refine bindE hF (fun x9449 hx9450 hF => ?_)
                      refine gdE hF (fun h2057 hF => ?_)
                      refine bindE hF (fun x9453 hx9454 hF => ?_)
                      refine ifE hF (fun h2058 hF => ?_) (fun h2058 hF => ?_)
                      ·
                       refine wp_drawn2 hI [0, 1, 2, 3, 4] (by decide) rfl (by kernel_rfl) (by kernel_rfl) ?_
                       intro hsub
                       refine alp 0 (.bool true) hsub rfl (by kernel_rfl) (fun _ => (by kernel_rfl)) ?_
                       refine alp 1 (slv g8813 y4930.1.length c8814) hsub rfl (by kernel_rfl) (fun _ => (by kernel_rfl)) ?_
                       refine alp 2 (iv v8822) hsub rfl (by kernel_rfl) (fun _ => (by kernel_rfl)) ?_
                       obtain ⟨b9457, rfl, he9458⟩ := r8816.at_ eInt_len (by decide) hx9450
                       refine al_light 3 (.pointer (some ⟨b9457, (v8822).toNat * 1, none⟩)) hsub rfl (by kernel_rfl) (fun w hI => s_indexR (v8822).toNat Try.underlying49 Try.sizeOf3 rfl rfl (Int.toNat_of_nonneg h2056).symm (lt_n hx9450 rfl) ⟨rfl, Below.refl _ _⟩) ?_
                       refine al_light 4 (iv x9449) hsub rfl (by kernel_rfl) (fun w hI => s_loadR1 hI 3 (iv x9449) Try.isAgg3 rfl rfl (he9458 0 _ rfl) ⟨rfl, Below.refl _ _⟩) ?_
                       refine alp 5 (slv g8817 y4942.1.length c8818) hsub rfl (by kernel_rfl) (fun _ => (by kernel_rfl)) ?_
                       refine alp 6 (iv v8821) hsub rfl (by kernel_rfl) (fun _ => (by kernel_rfl)) ?_
                       obtain ⟨b9459, rfl, he9460⟩ := r8820.at_ eInt_len (by decide) hx9454
                       refine al_light 7 (.pointer (some ⟨b9459, (v8821).toNat * 1, none⟩)) hsub rfl (by kernel_rfl) (fun w hI => s_indexR (v8821).toNat Try.underlying49 Try.sizeOf3 rfl rfl (Int.toNat_of_nonneg h2057).symm (lt_n hx9454 rfl) ⟨rfl, Below.refl _ _⟩) ?_
                       refine al_light 8 (iv x9453) hsub rfl (by kernel_rfl) (fun w hI => s_loadR1 hI 4 (iv x9453) Try.isAgg3 rfl rfl (he9460 0 _ rfl) ⟨rfl, Below.refl _ _⟩) ?_
                       refine al_light 9 (.bool false) hsub rfl (by kernel_rfl) (fun w hI => s_neq rfl rfl (fun h => absurd (a := x9449 = x9453) h2058 h) (fun _ => ⟨rfl, Below.refl _ _⟩)) ?_
                       refine alp 10 (.bool true) hsub rfl (by kernel_rfl) (fun _ => (by kernel_rfl)) ?_
                       refine any_end (by kernel_rfl) (fun w hI => ?_)
                       refine .inr ?_
                       refine wp_condT rfl (wp_seq (rgn (by kernel_rfl) (pu (.bool false) (by kernel_rfl) (seq_nil (wp_ret ?_)))))
                       replace hF := Option.some.inj hF; subst hF
                       exact ⟨.bool false, Ret.r1 rfl rfl, ⟨rfl, hI.below⟩⟩
                      ·
                       refine wp_drawn2 hI [0, 1, 2, 3, 4] (by decide) rfl (by kernel_rfl) (by kernel_rfl) ?_
                       intro hsub
                       refine alp 0 (.bool true) hsub rfl (by kernel_rfl) (fun _ => (by kernel_rfl)) ?_
                       refine alp 1 (slv g8813 y4930.1.length c8814) hsub rfl (by kernel_rfl) (fun _ => (by kernel_rfl)) ?_
                       refine alp 2 (iv v8822) hsub rfl (by kernel_rfl) (fun _ => (by kernel_rfl)) ?_
                       obtain ⟨b9461, rfl, he9462⟩ := r8816.at_ eInt_len (by decide) hx9450
                       refine al_light 3 (.pointer (some ⟨b9461, (v8822).toNat * 1, none⟩)) hsub rfl (by kernel_rfl) (fun w hI => s_indexR (v8822).toNat Try.underlying49 Try.sizeOf3 rfl rfl (Int.toNat_of_nonneg h2056).symm (lt_n hx9450 rfl) ⟨rfl, Below.refl _ _⟩) ?_
                       refine al_light 4 (iv x9449) hsub rfl (by kernel_rfl) (fun w hI => s_loadR1 hI 3 (iv x9449) Try.isAgg3 rfl rfl (he9462 0 _ rfl) ⟨rfl, Below.refl _ _⟩) ?_
                       refine alp 5 (slv g8817 y4942.1.length c8818) hsub rfl (by kernel_rfl) (fun _ => (by kernel_rfl)) ?_
                       refine alp 6 (iv v8821) hsub rfl (by kernel_rfl) (fun _ => (by kernel_rfl)) ?_
                       obtain ⟨b9463, rfl, he9464⟩ := r8820.at_ eInt_len (by decide) hx9454
                       refine al_light 7 (.pointer (some ⟨b9463, (v8821).toNat * 1, none⟩)) hsub rfl (by kernel_rfl) (fun w hI => s_indexR (v8821).toNat Try.underlying49 Try.sizeOf3 rfl rfl (Int.toNat_of_nonneg h2057).symm (lt_n hx9454 rfl) ⟨rfl, Below.refl _ _⟩) ?_
                       refine al_light 8 (iv x9453) hsub rfl (by kernel_rfl) (fun w hI => s_loadR1 hI 4 (iv x9453) Try.isAgg3 rfl rfl (he9464 0 _ rfl) ⟨rfl, Below.refl _ _⟩) ?_
                       refine al_light 9 (.bool true) hsub rfl (by kernel_rfl) (fun w hI => s_neq rfl rfl (fun _ => ⟨rfl, Below.refl _ _⟩) (fun h => absurd (a := x9449 = x9453) h h2058)) ?_
                       refine alp 10 (.bool false) hsub rfl (by kernel_rfl) (fun _ => (by kernel_rfl)) ?_
                       refine any_end (by kernel_rfl) (fun w hI => ?_)
                       exact .inl ⟨rfl, ⟨some b9461, c8814, cl8815, some b9463, c8818, cl8819, ⟨rfl, rfl, rfl, rfl, rfl, rfl, rfl, rfl, trivial⟩, hI.pickL [0, 1, 2, 3, 4] (by decide) rfl, (r8816.to rfl rfl), (r8820.to rfl rfl), hF⟩⟩
                     ·
                      have hF := hG; clear hG
                      refine ifE hF (fun h => absurd h (by decide)) (fun _ hF => ?_)
                      refine gdE hF (fun h2059 hF => ?_)
                      refine bindE hF (fun x9465 hx9466 hF => ?_)
                      refine gdE hF (fun h2060 hF => ?_)
                      refine bindE hF (fun x9469 hx9470 hF => ?_)
                      refine ifE hF (fun h2061 hF => ?_) (fun h2061 hF => ?_)
                      ·
                       refine wp_drawn2 hI [0, 1, 2, 3, 4] (by decide) rfl (by kernel_rfl) (by kernel_rfl) ?_
                       intro hsub
                       refine alp 0 (.bool false) hsub rfl (by kernel_rfl) (fun _ => (by kernel_rfl)) ?_
                       refine alp 1 (slv g8813 y4930.1.length c8814) hsub rfl (by kernel_rfl) (fun _ => (by kernel_rfl)) ?_
                       refine alp 2 (iv v8822) hsub rfl (by kernel_rfl) (fun _ => (by kernel_rfl)) ?_
                       obtain ⟨b9473, rfl, he9474⟩ := r8816.at_ eInt_len (by decide) hx9466
                       refine al_light 3 (.pointer (some ⟨b9473, (v8822).toNat * 1, none⟩)) hsub rfl (by kernel_rfl) (fun w hI => s_indexR (v8822).toNat Try.underlying49 Try.sizeOf3 rfl rfl (Int.toNat_of_nonneg h2059).symm (lt_n hx9466 rfl) ⟨rfl, Below.refl _ _⟩) ?_
                       refine al_light 4 (iv x9465) hsub rfl (by kernel_rfl) (fun w hI => s_loadR1 hI 3 (iv x9465) Try.isAgg3 rfl rfl (he9474 0 _ rfl) ⟨rfl, Below.refl _ _⟩) ?_
                       refine alp 5 (slv g8817 y4942.1.length c8818) hsub rfl (by kernel_rfl) (fun _ => (by kernel_rfl)) ?_
                       refine alp 6 (iv v8821) hsub rfl (by kernel_rfl) (fun _ => (by kernel_rfl)) ?_
                       obtain ⟨b9475, rfl, he9476⟩ := r8820.at_ eInt_len (by decide) hx9470
                       refine al_light 7 (.pointer (some ⟨b9475, (v8821).toNat * 1, none⟩)) hsub rfl (by kernel_rfl) (fun w hI => s_indexR (v8821).toNat Try.underlying49 Try.sizeOf3 rfl rfl (Int.toNat_of_nonneg h2060).symm (lt_n hx9470 rfl) ⟨rfl, Below.refl _ _⟩) ?_
                       refine al_light 8 (iv x9469) hsub rfl (by kernel_rfl) (fun w hI => s_loadR1 hI 4 (iv x9469) Try.isAgg3 rfl rfl (he9476 0 _ rfl) ⟨rfl, Below.refl _ _⟩) ?_
                       refine al_light 9 (.bool false) hsub rfl (by kernel_rfl) (fun w hI => s_neq rfl rfl (fun h => absurd (a := x9465 = x9469) h2061 h) (fun _ => ⟨rfl, Below.refl _ _⟩)) ?_
                       refine alp 10 (.bool false) hsub rfl (by kernel_rfl) (fun _ => (by kernel_rfl)) ?_
                       refine any_end (by kernel_rfl) (fun w hI => ?_)
                       exact .inl ⟨rfl, ⟨some b9473, c8814, cl8815, some b9475, c8818, cl8819, ⟨rfl, rfl, rfl, rfl, rfl, rfl, rfl, rfl, trivial⟩, hI.pickL [0, 1, 2, 3, 4] (by decide) rfl, (r8816.to rfl rfl), (r8820.to rfl rfl), hF⟩⟩
                      ·
                       refine wp_drawn2 hI [0, 1, 2, 3, 4] (by decide) rfl (by kernel_rfl) (by kernel_rfl) ?_
                       intro hsub
                       refine alp 0 (.bool false) hsub rfl (by kernel_rfl) (fun _ => (by kernel_rfl)) ?_
                       refine alp 1 (slv g8813 y4930.1.length c8814) hsub rfl (by kernel_rfl) (fun _ => (by kernel_rfl)) ?_
                       refine alp 2 (iv v8822) hsub rfl (by kernel_rfl) (fun _ => (by kernel_rfl)) ?_
                       obtain ⟨b9477, rfl, he9478⟩ := r8816.at_ eInt_len (by decide) hx9466
                       refine al_light 3 (.pointer (some ⟨b9477, (v8822).toNat * 1, none⟩)) hsub rfl (by kernel_rfl) (fun w hI => s_indexR (v8822).toNat Try.underlying49 Try.sizeOf3 rfl rfl (Int.toNat_of_nonneg h2059).symm (lt_n hx9466 rfl) ⟨rfl, Below.refl _ _⟩) ?_
                       refine al_light 4 (iv x9465) hsub rfl (by kernel_rfl) (fun w hI => s_loadR1 hI 3 (iv x9465) Try.isAgg3 rfl rfl (he9478 0 _ rfl) ⟨rfl, Below.refl _ _⟩) ?_
                       refine alp 5 (slv g8817 y4942.1.length c8818) hsub rfl (by kernel_rfl) (fun _ => (by kernel_rfl)) ?_
                       refine alp 6 (iv v8821) hsub rfl (by kernel_rfl) (fun _ => (by kernel_rfl)) ?_
                       obtain ⟨b9479, rfl, he9480⟩ := r8820.at_ eInt_len (by decide) hx9470
                       refine al_light 7 (.pointer (some ⟨b9479, (v8821).toNat * 1, none⟩)) hsub rfl (by kernel_rfl) (fun w hI => s_indexR (v8821).toNat Try.underlying49 Try.sizeOf3 rfl rfl (Int.toNat_of_nonneg h2060).symm (lt_n hx9470 rfl) ⟨rfl, Below.refl _ _⟩) ?_
                       refine al_light 8 (iv x9469) hsub rfl (by kernel_rfl) (fun w hI => s_loadR1 hI 4 (iv x9469) Try.isAgg3 rfl rfl (he9480 0 _ rfl) ⟨rfl, Below.refl _ _⟩) ?_
                       refine al_light 9 (.bool true) hsub rfl (by kernel_rfl) (fun w hI => s_neq rfl rfl (fun _ => ⟨rfl, Below.refl _ _⟩) (fun h => absurd (a := x9465 = x9469) h h2061)) ?_
                       refine alp 10 (.bool true) hsub rfl (by kernel_rfl) (fun _ => (by kernel_rfl)) ?_
                       refine any_end (by kernel_rfl) (fun w hI => ?_)
                       refine .inr ?_
                       refine wp_condT rfl (wp_seq (rgn (by kernel_rfl) (pu (.bool false) (by kernel_rfl) (seq_nil (wp_ret ?_)))))
                       replace hF := Option.some.inj hF; subst hF
                       exact ⟨.bool false, Ret.r1 rfl rfl, ⟨rfl, hI.below⟩⟩
                    ·intro ρ w hJ
                     obtain ⟨g9441, c9442, cl9443, g9445, c9446, cl9447, hag, hI, r9444, r9448, hF⟩ := hJ
                     obtain ⟨ρ, rfl⟩ := hag.form; clear hag
                     unfold F12j7 at hF
                     refine wp_condF rfl (wp_skip (rgn (by kernel_rfl) (pu (iv v8821) (by kernel_rfl) (ckE hF (fun h2055 hF => ?_)))))
                     refine seq_c (s_add rfl rfl h2055 ?_)
                     refine pu (iv (v8821 + 1)) (by kernel_rfl) (seq_nil ?_)
                     exact .inl ⟨rfl, ⟨g9316, c9317, cl9318, g9441, c9442, cl9443, g9445, c9446, cl9447, v8821 + 1, ⟨rfl, rfl, rfl, rfl, rfl, rfl, rfl, trivial⟩, hI.pickL [0, 1, 2, 3, 4] (by decide) rfl, (r9319.to rfl rfl), (r9444.to rfl rfl), (r9448.to rfl rfl), hF⟩⟩
                 ·intro ρ w hJ
                  obtain ⟨g9198, c9199, cl9200, g9202, c9203, cl9204, g9206, c9207, cl9208, v9210, hag, hI, r9201, r9205, r9209, hF⟩ := hJ
                  obtain ⟨ρ, rfl⟩ := hag.form; clear hag
                  unfold F12j5 at hF
                  refine rgn (by kernel_rfl) (pu (iv v8822) (by kernel_rfl) (ckE hF (fun h2002 hF => ?_)))
                  refine seq_c (s_add rfl rfl h2002 ?_)
                  refine pu (iv (v8822 + 1)) (by kernel_rfl) (seq_nil ?_)
                  exact ⟨rfl, m4, Nat.lt_succ_self _, ⟨g9198, c9199, cl9200, g9202, c9203, cl9204, g9206, c9207, cl9208, v9210, v8822 + 1, m4, ⟨rfl, rfl, rfl, rfl, rfl, rfl, rfl, trivial⟩, hI.pickL [0, 1, 2, 3, 4] (by decide) rfl, (r9201.to rfl rfl), (r9205.to rfl rfl), (r9209.to rfl rfl), hF, rfl⟩⟩
                ·
                 refine seq_c (s_lss rfl rfl (fun h => absurd (a := v8822 < (y4813.2.length : Int)) h h1912) (fun _ => ?_))
                 refine seq_nil (wp_condF rfl (wp_exit ?_))
                 exact .inl ⟨rfl, ⟨trivial, hI.pickL [] (by decide) rfl, hF⟩⟩
               ·intro ρ w hJ
                obtain ⟨hag, hI, hF⟩ := hJ
                obtain ⟨ρ, rfl⟩ := hag.form; clear hag
                unfold F12j3 at hF
                refine wp_seq (rgn (by kernel_rfl) (bindE hF (fun y7267 hy7268 hF => ?_)))
                refine seq_c (s_callv hI 25 [] (.bool y7267) (by kernel_rfl) (L25 _ N _ hy7268) ?_)
                intro w hI
                refine pu (.bool y7267) (by kernel_rfl) (seq_nil (wp_ret ?_))
                replace hF := Option.some.inj hF; subst hF
                exact ⟨.bool y7267, Ret.r1 rfl rfl, ⟨rfl, hI.below⟩⟩
              ·
               refine seq_on (by kernel_rfl) (s_neq rfl rfl (fun _ => ?_) (fun h => absurd (a := ((y4942.1.length : Int) + 1) = (y4930.1.length : Int)) h h1111))
               refine pu (.bool true) (by kernel_rfl) (seq_nil (wp_condT rfl (wp_seq (rgn (by kernel_rfl) (pu (.bool false) (by kernel_rfl) (seq_nil (wp_ret ?_)))))))
               replace hF := Option.some.inj hF; subst hF
               exact ⟨.bool false, Ret.r1 rfl rfl, ⟨rfl, hI.below⟩⟩
           ·
            refine seq_on (by kernel_rfl) (s_neq rfl rfl (fun _ => ?_) (fun h => absurd (a := y4942.2 = 0) h h1107))
            refine pu (.bool true) (by kernel_rfl) (pu (.bool true) (by kernel_rfl) (of_ (by kernel_rfl) (of_ (by kernel_rfl) (of_ (by kernel_rfl) (pu (.bool true) (by kernel_rfl) (pu (.bool true) (by kernel_rfl) (of_ (by kernel_rfl) (of_ (by kernel_rfl) (of_ (by kernel_rfl) ?_)))))))))
            refine pu (.bool true) (by kernel_rfl) (pu (.bool true) (by kernel_rfl) (of_ (by kernel_rfl) (of_ (by kernel_rfl) (of_ (by kernel_rfl) (of_ (by kernel_rfl) (of_ (by kernel_rfl) (of_ (by kernel_rfl) (pu (.bool true) (by kernel_rfl) (seq_nil ?_)))))))))
            refine wp_condT rfl (wp_seq (rgn (by kernel_rfl) (pu (.bool false) (by kernel_rfl) (seq_nil (wp_ret ?_)))))
            replace hF := Option.some.inj hF; subst hF
            exact ⟨.bool false, Ret.r1 rfl rfl, ⟨rfl, hI.below⟩⟩
          ·
           refine seq_on (by kernel_rfl) (s_neq rfl rfl (fun _ => ?_) (fun h => absurd (a := y4930.2 = 0) h h1106))
           refine pu (.bool true) (by kernel_rfl) (pu (.bool true) (by kernel_rfl) (of_ (by kernel_rfl) (of_ (by kernel_rfl) (pu (.bool true) (by kernel_rfl) (pu (.bool true) (by kernel_rfl) (of_ (by kernel_rfl) (of_ (by kernel_rfl) (of_ (by kernel_rfl) (pu (.bool true) (by kernel_rfl) ?_)))))))))
           refine pu (.bool true) (by kernel_rfl) (of_ (by kernel_rfl) (of_ (by kernel_rfl) (of_ (by kernel_rfl) (pu (.bool true) (by kernel_rfl) (pu (.bool true) (by kernel_rfl) (of_ (by kernel_rfl) (of_ (by kernel_rfl) (of_ (by kernel_rfl) (of_ (by kernel_rfl) ?_)))))))))
           refine of_ (by kernel_rfl) (of_ (by kernel_rfl) (pu (.bool true) (by kernel_rfl) (seq_nil (wp_condT rfl (wp_seq (rgn (by kernel_rfl) (pu (.bool false) (by kernel_rfl) (seq_nil (wp_ret ?_)))))))))
           replace hF := Option.some.inj hF; subst hF
           exact ⟨.bool false, Ret.r1 rfl rfl, ⟨rfl, hI.below⟩⟩
         ·
          refine seq_on (by kernel_rfl) (s_neq rfl rfl (fun _ => ?_) (fun h => absurd (a := y4918.2 = 0) h h1105))
          refine pu (.bool true) (by kernel_rfl) (pu (.bool true) (by kernel_rfl) (of_ (by kernel_rfl) (of_ (by kernel_rfl) (pu (.bool true) (by kernel_rfl) (pu (.bool true) (by kernel_rfl) (of_ (by kernel_rfl) (of_ (by kernel_rfl) (pu (.bool true) (by kernel_rfl) (pu (.bool true) (by kernel_rfl) ?_)))))))))
          refine of_ (by kernel_rfl) (of_ (by kernel_rfl) (of_ (by kernel_rfl) (pu (.bool true) (by kernel_rfl) (pu (.bool true) (by kernel_rfl) (of_ (by kernel_rfl) (of_ (by kernel_rfl) (of_ (by kernel_rfl) (pu (.bool true) (by kernel_rfl) (pu (.bool true) (by kernel_rfl) ?_)))))))))
          refine of_ (by kernel_rfl) (of_ (by kernel_rfl) (of_ (by kernel_rfl) (of_ (by kernel_rfl) (of_ (by kernel_rfl) (of_ (by kernel_rfl) (pu (.bool true) (by kernel_rfl) (seq_nil (wp_condT rfl (wp_seq ?_)))))))))
          refine rgn (by kernel_rfl) (pu (.bool false) (by kernel_rfl) (seq_nil (wp_ret ?_)))
          replace hF := Option.some.inj hF; subst hF
          exact ⟨.bool false, Ret.r1 rfl rfl, ⟨rfl, hI.below⟩⟩
        ·
         refine seq_on (by kernel_rfl) (s_neq rfl rfl (fun _ => ?_) (fun h => absurd (a := y4910.2 = 0) h h1104))
         refine pu (.bool true) (by kernel_rfl) (pu (.bool true) (by kernel_rfl) (of_ (by kernel_rfl) (of_ (by kernel_rfl) (pu (.bool true) (by kernel_rfl) (pu (.bool true) (by kernel_rfl) (of_ (by kernel_rfl) (of_ (by kernel_rfl) (pu (.bool true) (by kernel_rfl) (pu (.bool true) (by kernel_rfl) ?_)))))))))
         refine of_ (by kernel_rfl) (of_ (by kernel_rfl) (pu (.bool true) (by kernel_rfl) (pu (.bool true) (by kernel_rfl) (of_ (by kernel_rfl) (of_ (by kernel_rfl) (of_ (by kernel_rfl) (pu (.bool true) (by kernel_rfl) (pu (.bool true) (by kernel_rfl) (of_ (by kernel_rfl) ?_)))))))))
         refine of_ (by kernel_rfl) (of_ (by kernel_rfl) (pu (.bool true) (by kernel_rfl) (pu (.bool true) (by kernel_rfl) (of_ (by kernel_rfl) (of_ (by kernel_rfl) (of_ (by kernel_rfl) (of_ (by kernel_rfl) (of_ (by kernel_rfl) (of_ (by kernel_rfl) ?_)))))))))
         refine pu (.bool true) (by kernel_rfl) (seq_nil (wp_condT rfl (wp_seq (rgn (by kernel_rfl) (pu (.bool false) (by kernel_rfl) (seq_nil (wp_ret ?_)))))))
         replace hF := Option.some.inj hF; subst hF
         exact ⟨.bool false, Ret.r1 rfl rfl, ⟨rfl, hI.below⟩⟩
       ·
        refine seq_on (by kernel_rfl) (s_neq rfl rfl (fun _ => ?_) (fun h => absurd (a := y4906.2 = 0) h h1103))
        refine pu (.bool true) (by kernel_rfl) (pu (.bool true) (by kernel_rfl) (of_ (by kernel_rfl) (of_ (by kernel_rfl) (pu (.bool true) (by kernel_rfl) (pu (.bool true) (by kernel_rfl) (of_ (by kernel_rfl) (of_ (by kernel_rfl) (pu (.bool true) (by kernel_rfl) (pu (.bool true) (by kernel_rfl) ?_)))))))))
        refine of_ (by kernel_rfl) (of_ (by kernel_rfl) (pu (.bool true) (by kernel_rfl) (pu (.bool true) (by kernel_rfl) (of_ (by kernel_rfl) (of_ (by kernel_rfl) (pu (.bool true) (by kernel_rfl) (pu (.bool true) (by kernel_rfl) (of_ (by kernel_rfl) (of_ (by kernel_rfl) ?_)))))))))
        refine of_ (by kernel_rfl) (pu (.bool true) (by kernel_rfl) (pu (.bool true) (by kernel_rfl) (of_ (by kernel_rfl) (of_ (by kernel_rfl) (of_ (by kernel_rfl) (pu (.bool true) (by kernel_rfl) (pu (.bool true) (by kernel_rfl) (of_ (by kernel_rfl) (of_ (by kernel_rfl) ?_)))))))))
        refine of_ (by kernel_rfl) (of_ (by kernel_rfl) (of_ (by kernel_rfl) (of_ (by kernel_rfl) (pu (.bool true) (by kernel_rfl) (seq_nil (wp_condT rfl (wp_seq (rgn (by kernel_rfl) (pu (.bool false) (by kernel_rfl) ?_)))))))))
        refine seq_nil (wp_ret ?_)
        replace hF := Option.some.inj hF; subst hF
        exact ⟨.bool false, Ret.r1 rfl rfl, ⟨rfl, hI.below⟩⟩
      ·
       refine seq_on (by kernel_rfl) (s_neq rfl rfl (fun _ => ?_) (fun h => absurd (a := y4902.2 = 0) h h1102))
       refine pu (.bool true) (by kernel_rfl) (pu (.bool true) (by kernel_rfl) (of_ (by kernel_rfl) (of_ (by kernel_rfl) (pu (.bool true) (by kernel_rfl) (pu (.bool true) (by kernel_rfl) (of_ (by kernel_rfl) (of_ (by kernel_rfl) (pu (.bool true) (by kernel_rfl) (pu (.bool true) (by kernel_rfl) ?_)))))))))
       refine of_ (by kernel_rfl) (of_ (by kernel_rfl) (pu (.bool true) (by kernel_rfl) (pu (.bool true) (by kernel_rfl) (of_ (by kernel_rfl) (of_ (by kernel_rfl) (pu (.bool true) (by kernel_rfl) (pu (.bool true) (by kernel_rfl) (of_ (by kernel_rfl) (of_ (by kernel_rfl) ?_)))))))))
       refine pu (.bool true) (by kernel_rfl) (pu (.bool true) (by kernel_rfl) (of_ (by kernel_rfl) (of_ (by kernel_rfl) (of_ (by kernel_rfl) (pu (.bool true) (by kernel_rfl) (pu (.bool true) (by kernel_rfl) (of_ (by kernel_rfl) (of_ (by kernel_rfl) (of_ (by kernel_rfl) ?_)))))))))
       refine pu (.bool true) (by kernel_rfl) (pu (.bool true) (by kernel_rfl) (of_ (by kernel_rfl) (of_ (by kernel_rfl) (of_ (by kernel_rfl) (of_ (by kernel_rfl) (of_ (by kernel_rfl) (of_ (by kernel_rfl) (pu (.bool true) (by kernel_rfl) (seq_nil ?_)))))))))
       refine wp_condT rfl (wp_seq (rgn (by kernel_rfl) (pu (.bool false) (by kernel_rfl) (seq_nil (wp_ret ?_)))))
       replace hF := Option.some.inj hF; subst hF
       exact ⟨.bool false, Ret.r1 rfl rfl, ⟨rfl, hI.below⟩⟩
     ·
      refine seq_c (s_neq rfl rfl (fun _ => ?_) (fun h => absurd (a := y4893.2.2 = 0) h h1101))
      refine pu (.bool true) (by kernel_rfl) (of_ (by kernel_rfl) (of_ (by kernel_rfl) (pu (.bool true) (by kernel_rfl) (pu (.bool true) (by kernel_rfl) (of_ (by kernel_rfl) (of_ (by kernel_rfl) (pu (.bool true) (by kernel_rfl) (pu (.bool true) (by kernel_rfl) (of_ (by kernel_rfl) ?_)))))))))
      refine of_ (by kernel_rfl) (pu (.bool true) (by kernel_rfl) (pu (.bool true) (by kernel_rfl) (of_ (by kernel_rfl) (of_ (by kernel_rfl) (pu (.bool true) (by kernel_rfl) (pu (.bool true) (by kernel_rfl) (of_ (by kernel_rfl) (of_ (by kernel_rfl) (pu (.bool true) (by kernel_rfl) ?_)))))))))
      refine pu (.bool true) (by kernel_rfl) (of_ (by kernel_rfl) (of_ (by kernel_rfl) (pu (.bool true) (by kernel_rfl) (pu (.bool true) (by kernel_rfl) (of_ (by kernel_rfl) (of_ (by kernel_rfl) (of_ (by kernel_rfl) (pu (.bool true) (by kernel_rfl) (pu (.bool true) (by kernel_rfl) ?_)))))))))
      refine of_ (by kernel_rfl) (of_ (by kernel_rfl) (of_ (by kernel_rfl) (pu (.bool true) (by kernel_rfl) (pu (.bool true) (by kernel_rfl) (of_ (by kernel_rfl) (of_ (by kernel_rfl) (of_ (by kernel_rfl) (of_ (by kernel_rfl) (of_ (by kernel_rfl) ?_)))))))))
      refine of_ (by kernel_rfl) (pu (.bool true) (by kernel_rfl) (seq_nil (wp_condT rfl (wp_seq (rgn (by kernel_rfl) (pu (.bool false) (by kernel_rfl) (seq_nil (wp_ret ?_))))))))
      replace hF := Option.some.inj hF; subst hF
      exact ⟨.bool false, Ret.r1 rfl rfl, ⟨rfl, hI.below⟩⟩
 ·intro ρ w hJ
  obtain ⟨hag, hI, hF⟩ := hJ
  obtain ⟨ρ, rfl⟩ := hag.form; clear hag
  unfold F12j1 at hF
  refine wp_condT rfl (wp_seq (rgn (by kernel_rfl) (bindE hF (fun y4826 hy4827 hF => ?_))))
  refine seq_c (s_callv hI 25 [] (.bool y4826) (by kernel_rfl) (L25 _ N _ hy4827) ?_)
  intro w hI
  refine pu (.bool y4826) (by kernel_rfl) (seq_nil (wp_ret ?_))
  replace hF := Option.some.inj hF; subst hF
  exact ⟨.bool y4826, Ret.r1 rfl rfl, ⟨rfl, hI.below⟩⟩


end Go.K
