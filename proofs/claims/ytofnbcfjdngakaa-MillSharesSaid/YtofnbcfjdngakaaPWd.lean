/- That the functions do what the pure definitions say: walks, as tools/lift.py writes them. No condition. -/
import Derived.Test.YtofnbcfjdngakaaPWc
namespace Go.K
open Go.Proofs Go.RowKit
set_option linter.unusedVariables false
set_option linter.unusedSimpArgs false
set_option maxRecDepth 100000
attribute [local irreducible] Seq Step CallV AnyE opX
theorem L40 (w0 : World) (p0_0 : Int) (Ap0_1 : Option Addr) (cp0_1 : Nat) (lp0_1 : List Cm) (hCp0_1 : Cells w0 Ap0_1 (flat eCm lp0_1)) (hMp0_1 : lp0_1.length ≤ 9223372036854775807) (hKp0_1 : lp0_1.length ≤ cp0_1) (N : Nat) (r : (List Int × Int)) (hF : F40 N p0_0 lp0_1 = some r) : Does Try.prog 40 [.agg #[.int .i64 p0_0, .slice Ap0_1 lp0_1.length cp0_1]] w0 fun v w => ∃ (z0 : Option Nat) (z1 : Nat) (z2 : List Value), v = .tuple #[slv z0 r.1.length z1, .int .i64 r.2] ∧ Inv [] w0 w [(z0, blk z2 3)] ∧ Row 1 z0 r.1.length z1 z2 (flat eInt r.1) := by
 refine calls_of (n := 44) Try.func40 rfl Try.ntmps40 rfl ?_
 have hI := Inv.start w0
 unfold F40 at hF
 refine wp_seq (rgn (by kernel_rfl) (seq_c (s_boxI hI [iv p0_0, .slice Ap0_1 lp0_1.length cp0_1] rfl ?_)))
 intro b334 w hI
 refine pu (.slice none 0 0) (by kernel_rfl) (pu (iv 0) (by kernel_rfl) (seq_nil (wp_seq (wp_seq (rgn (by kernel_rfl) (seq_c (s_loadK hI 0 2 [iv p0_0, .slice Ap0_1 lp0_1.length cp0_1] Try.isAgg24 Try.sizeOf24 rfl rfl rfl rfl ?_)))))))
 refine bindE hF (fun y341 hy342 hF => ?_)
 refine seq_c (s_callv hI 23 [.agg #[iv p0_0, .slice Ap0_1 lp0_1.length cp0_1]] (iv y341) (by kernel_rfl) (L23 _ p0_0 Ap0_1 cp0_1 lp0_1 (hCp0_1.inv0 hI) hMp0_1 hKp0_1 N _ hy342) ?_)
 intro w hI
 refine pu (iv y341) (by kernel_rfl) (seq_nil (wp_seq (rgn (by kernel_rfl) (pu (iv y341) (by kernel_rfl) (ifE hF (fun h70 hF => ?_) (fun h70 hF => ?_))))))
 ·
  refine seq_c (s_neq rfl rfl (fun h => absurd (a := y341 = 0) h70 h) (fun _ => ?_))
  refine seq_nil (wp_condF rfl (wp_skip (wp_seq (rgn (by kernel_rfl) (seq_c (s_loadK hI 0 2 [iv p0_0, .slice Ap0_1 lp0_1.length cp0_1] Try.isAgg24 Try.sizeOf24 rfl rfl rfl rfl ?_))))))
  refine bindE hF (fun y354 hy355 hF => ?_)
  refine seq_c (s_call 80 [.agg #[iv p0_0, .slice Ap0_1 lp0_1.length cp0_1]] (by kernel_rfl) (L80 _ p0_0 Ap0_1 cp0_1 lp0_1 (hCp0_1.inv0 hI) hMp0_1 hKp0_1 N _ hy355) ?_)
  rintro v w ⟨g356, c357, cl358, g359, c360, cl361, rfl, hN, r362, r363⟩
  have hI := hI.join hN; clear hN
  refine pu (.tuple #[.agg #[iv y354.1, .slice Ap0_1 lp0_1.length cp0_1, slv g356 y354.2.1.length c357], slv g359 y354.2.2.length c360]) (by kernel_rfl) (pu (.agg #[iv y354.1, .slice Ap0_1 lp0_1.length cp0_1, slv g356 y354.2.1.length c357]) (by kernel_rfl) (pu (slv g359 y354.2.2.length c360) (by kernel_rfl) (seq_c (s_allocI hI [iv 0, .slice none 0 0, .slice none 0 0] Try.zeroValue93 rfl ?_))))
  intro b364 w hI
  refine seq_c (s_store hI 0 3 [iv y354.1, .slice Ap0_1 lp0_1.length cp0_1, slv g356 y354.2.1.length c357] Try.sizeOf93 rfl rfl rfl rfl rfl (Nat.le_of_ble_eq_true rfl) ?_)
  intro w hI
  refine pu (slv g359 y354.2.2.length c360) (by kernel_rfl) (seq_nil (wp_seq (rgn (by kernel_rfl) (pu (.pointer (some ⟨b334, 0, none⟩)) (by kernel_rfl) (seq_c (s_load1 hI 3 (iv p0_0) Try.isAgg3 rfl rfl rfl ?_))))))
  refine gdE hF (fun h71 hF => ?_)
  refine gdE hF (fun h72 hF => ?_)
  refine seq_c (s_makeRowN hI (enc := eInt) eInt_len (by decide) ((0 : Int)) Try.underlying49 (z := iv 0) (k := 1) (bytes := 8) (by kernel_rfl) rfl (p0_0).toNat (congrArg (Value.int .i64) (Int.toNat_of_nonneg h71).symm) (congrArg (Value.int .i64) (Int.toNat_of_nonneg h71).symm) (by omega) (by decide) ?_)
  intro b365 cl366 w hI r367
  refine pu (slv (some b365) ((List.replicate (p0_0).toNat (0 : Int)).length) (p0_0).toNat) (by kernel_rfl) (seq_nil (wp_seq (wp_seq (rgn (by kernel_rfl) (pu (.pointer (some ⟨b364, 2, none⟩)) (by kernel_rfl) (seq_c (s_load1 hI 1 (slv g356 y354.2.1.length c357) Try.isAgg49 rfl rfl rfl ?_)))))))
  refine pu (iv ((y354.2.1.length : Nat) : Int)) (by kernel_rfl) (pu (iv 0) (by kernel_rfl) (seq_nil (wp_block ?_)))
  refine wp_loop (fun m ρ w => ∃ (g615 : Option Nat) (c616 : Nat) (cl617 : List Value) (g619 : Option Nat) (c620 : Nat) (cl621 : List Value) (share_614 : List Int) (v623 : Int) (mm : Nat), Agree ρ [(1, .pointer (some ⟨b334, 0, none⟩)), (7, slv g615 share_614.length c616), (24, slv g619 y354.2.1.length c620), (25, iv (y354.2.1.length : Int)), (26, iv v623)] ∧ Inv [] w0 w [(some b334, blk [iv p0_0, .slice Ap0_1 lp0_1.length cp0_1] 24), (g615, blk cl617 3), (g619, blk cl621 3)] ∧ (Row 1 g615 (share_614.length) c616 cl617 (flat eInt share_614)) ∧ (Row 1 g619 (y354.2.1.length) c620 cl621 (flat eInt y354.2.1)) ∧ F40l1 lp0_1 y354 mm share_614 v623 = some r ∧ mm = m) (m := N) ⟨some b365, (p0_0).toNat, cl366, g356, c357, cl358, List.replicate (p0_0).toNat (0 : Int), 0, N, ⟨rfl, rfl, rfl, rfl, rfl, trivial⟩, hI.pickL [4, 0, 2] (by decide) rfl, (r367.to rfl rfl), (r362.to rfl rfl), hF, rfl⟩ ?_
  rintro m ρ w ⟨g615, c616, cl617, g619, c620, cl621, share_614, v623, mm, hag, hI, r618, r622, hF, hm⟩
  subst hm; obtain ⟨ρ, rfl⟩ := hag.form; clear hag
  obtain _ | m1 := mm
  ·cases (show (none : Option (List Int × Int)) = some r from hF)
  replace hF : F40b1 lp0_1 y354 (F40l1 lp0_1 y354 m1) share_614 v623 = some r := hF; unfold F40b1 at hF
  refine wp_seq (rgn (by kernel_rfl) (ifE hF (fun h123 hF => ?_) (fun h123 hF => ?_)))
  ·
   refine seq_c (s_lss rfl rfl (fun _ => ?_) (fun h => absurd (a := v623 < (y354.2.1.length : Int)) h123 h))
   refine seq_nil (wp_seq (wp_condT rfl (wp_skip (wp_cutO (fun ρ w => ∃ (g642 : Option Nat) (c643 : Nat) (cl644 : List Value) (g646 : Option Nat) (c647 : Nat) (cl648 : List Value) (share_641 : List Int), Agree ρ [(1, .pointer (some ⟨b334, 0, none⟩)), (7, slv g642 share_641.length c643), (24, slv g646 y354.2.1.length c647), (25, iv (y354.2.1.length : Int)), (26, iv v623)] ∧ Inv [] w0 w [(some b334, blk [iv p0_0, .slice Ap0_1 lp0_1.length cp0_1] 24), (g642, blk cl644 3), (g646, blk cl648 3)] ∧ (Row 1 g642 (share_641.length) c643 cl644 (flat eInt share_641)) ∧ (Row 1 g646 (y354.2.1.length) c647 cl648 (flat eInt y354.2.1)) ∧ F40j2 (F40l1 lp0_1 y354 m1) v623 share_641 = some r) ?_ ?_))))
   ·
    refine wp_block ?_
    refine wp_seq (rgn (by kernel_rfl) (pu (iv v623) (by kernel_rfl) (gdE hF (fun h129 hF => ?_))))
    refine bindE hF (fun x650 hx651 hF => ?_)
    obtain ⟨b652, rfl, he653⟩ := r622.at_ eInt_len (by decide) hx651
    refine seq_c (s_indexR (v623).toNat Try.underlying49 Try.sizeOf3 rfl rfl (Int.toNat_of_nonneg h129).symm (lt_n hx651 rfl) ?_)
    refine seq_c (s_loadR1 hI 2 (iv x650) Try.isAgg3 rfl rfl (he653 0 _ rfl) ?_)
    refine pu (iv v623) (by kernel_rfl) (pu (iv x650) (by kernel_rfl) (seq_nil (wp_seq (rgn (by kernel_rfl) (pu (iv x650) (by kernel_rfl) (ifE hF (fun h131 hF => ?_) (fun h131 hF => ?_)))))))
    ·
     refine seq_c (s_neq rfl rfl (fun h => absurd (a := x650 = (-1)) h131 h) (fun _ => ?_))
     refine seq_nil (wp_condF rfl (wp_skip ?_))
     exact .inl ⟨rfl, ⟨g615, c616, cl617, some b652, c620, cl621, share_614, ⟨rfl, rfl, rfl, rfl, rfl, trivial⟩, hI.pickL [0, 1, 2] (by decide) rfl, (r618.to rfl rfl), (r622.to rfl rfl), hF⟩⟩
    ·
     refine seq_c (s_neq rfl rfl (fun _ => ?_) (fun h => absurd (a := x650 = (-1)) h h131))
     refine seq_nil (wp_condT rfl (rgn (by kernel_rfl) (pu (slv g615 share_614.length c616) (by kernel_rfl) (pu (iv v623) (by kernel_rfl) (pu (.pointer (some ⟨b334, 1, none⟩)) (by kernel_rfl) (seq_c (s_load1 hI 0 (.slice Ap0_1 lp0_1.length cp0_1) Try.isAgg22 rfl rfl rfl ?_)))))))
     refine pu (iv x650) (by kernel_rfl) (gdE hF (fun h132 hF => ?_))
     refine bindE hF (fun x654 hx655 hF => ?_)
     obtain ⟨b656, o657, hA658, hb659, he660⟩ := hCp0_1.at_ eCm_len (by decide) hx655
     refine seq_c (s_indexA (x650).toNat Try.underlying22 Try.sizeOf26 rfl hA658 rfl (Int.toNat_of_nonneg h132).symm (lt_n hx655 rfl) ?_)
     refine pu (.pointer (some ⟨b656, o657 + (x650).toNat * 3, none⟩)) (by kernel_rfl) (seq_c (s_loadB1 hI (iv x654.fam) Try.isAgg3 rfl hb659 (by simp) (he660 0 _ rfl) ?_))
     refine bindE hF (fun x661 hx662 hF => ?_)
     obtain ⟨b663, rfl, he664⟩ := r618.at_ eInt_len (by decide) hx662
     refine seq_c (s_indexR (v623).toNat Try.underlying49 Try.sizeOf3 rfl rfl (Int.toNat_of_nonneg h129).symm (lt_n hx662 rfl) ?_)
     have := lt_n hx662 rfl
     refine seq_c (s_store hI 1 1 [iv x654.fam] Try.sizeOf3 rfl rfl rfl rfl rfl (r618.room (by omega)) ?_)
     intro w hI
     have r665 := r618.put eInt_len (by decide) (v623).toNat x654.fam (by omega)
     obtain ⟨cl666, hcl⟩ : ∃ z, z = putCells cl617 ((v623).toNat * 1) (eInt x654.fam) := ⟨_, rfl⟩
     rw [← hcl] at r665
     have hI : Inv [] w0 w [(some b334, blk [iv p0_0, .slice Ap0_1 lp0_1.length cp0_1] 24), (some b663, blk cl666 3), (some b652, blk cl621 3)] := by rw [hcl]; exact hI
     clear hcl
     refine seq_nil ?_
     exact .inl ⟨rfl, ⟨some b663, c616, cl666, some b652, c620, cl621, (share_614).set (v623).toNat x654.fam, ⟨rfl, (slv_n (set_len rfl)), rfl, rfl, rfl, trivial⟩, hI.pickL [0, 1, 2] (by decide) rfl, (r665.to rfl (set_len rfl)), (r622.to rfl rfl), hF⟩⟩
   ·intro ρ w hJ
    obtain ⟨g642, c643, cl644, g646, c647, cl648, share_641, hag, hI, r645, r649, hF⟩ := hJ
    obtain ⟨ρ, rfl⟩ := hag.form; clear hag
    unfold F40j2 at hF
    refine rgn (by kernel_rfl) (ckE hF (fun h128 hF => ?_))
    refine seq_c (s_add rfl rfl h128 ?_)
    refine pu (iv (v623 + 1)) (by kernel_rfl) (seq_nil ?_)
    exact ⟨rfl, m1, Nat.lt_succ_self _, ⟨g642, c643, cl644, g646, c647, cl648, share_641, v623 + 1, m1, ⟨rfl, rfl, rfl, rfl, rfl, trivial⟩, hI.pickL [0, 1, 2] (by decide) rfl, (r645.to rfl rfl), (r649.to rfl rfl), hF, rfl⟩⟩
  ·
   refine seq_c (s_lss rfl rfl (fun h => absurd (a := v623 < (y354.2.1.length : Int)) h h123) (fun _ => ?_))
   refine seq_nil (wp_seq (wp_condF rfl (wp_exit ?_)))
   refine wp_seq (rgn (by kernel_rfl) (pu (slv g615 share_614.length c616) (by kernel_rfl) (pu (slv g615 share_614.length c616) (by kernel_rfl) (pu (iv 0) (by kernel_rfl) (seq_nil (wp_ret ?_))))))
   replace hF := Option.some.inj hF; subst hF
   exact ⟨.tuple #[slv g615 share_614.length c616, iv 0], Ret.r2 rfl rfl rfl, ⟨g615, c616, cl617, rfl, hI.pickL [1] (by decide) rfl, r618.to rfl rfl⟩⟩
 ·
  refine seq_c (s_neq rfl rfl (fun _ => ?_) (fun h => absurd (a := y341 = 0) h h70))
  refine seq_nil (wp_condT rfl (wp_seq (rgn (by kernel_rfl) (pu (iv y341) (by kernel_rfl) (pu (.slice none 0 0) (by kernel_rfl) (pu (iv y341) (by kernel_rfl) (seq_nil (wp_ret ?_))))))))
  have hI := hI.nilRow 3
  replace hF := Option.some.inj hF; subst hF
  exact ⟨.tuple #[.slice none 0 0, iv y341], Ret.r2 rfl rfl rfl, ⟨none, 0, [], rfl, hI.pickL [0] (by decide) rfl, Row.nil_ 1⟩⟩


theorem L94 (w0 : World) (p0_0 : Int) (Ap0_1 : Option Addr) (cp0_1 : Nat) (lp0_1 : List Cm) (p1 : Int) (p2 : Int) (hCp0_1 : Cells w0 Ap0_1 (flat eCm lp0_1)) (hMp0_1 : lp0_1.length ≤ 9223372036854775807) (hKp0_1 : lp0_1.length ≤ cp0_1) (r : Bool) (hF : F94 p0_0 lp0_1 p1 p2 = some r) : Does Try.prog 94 [.agg #[.int .i64 p0_0, .slice Ap0_1 lp0_1.length cp0_1], .int .i64 p1, .int .i64 p2] w0 fun v w => v = .bool r ∧ Below w0.heap.size w0 w := by
 refine calls_of (n := 17) Try.func94 rfl Try.ntmps94 rfl ?_
 have hI := Inv.start w0
 unfold F94 at hF
 refine wp_seq (rgn (by kernel_rfl) (seq_c (s_boxI hI [iv p0_0, .slice Ap0_1 lp0_1.length cp0_1] rfl ?_)))
 intro b37 w hI
 refine pu (.bool false) (by kernel_rfl) (seq_nil (wp_seq (gdE hF (fun h22 hF => ?_))))
 refine bindE hF (fun x56 hx57 hF => ?_)
 refine gdE hF (fun h23 hF => ?_)
 refine ckE hF (fun h24 hF => ?_)
 refine gdE hF (fun h25 hF => ?_)
 refine gdE hF (fun h26 hF => ?_)
 refine ckE hF (fun h27 hF => ?_)
 refine ifE hF (fun h28 hF => ?_) (fun h28 hF => ?_)
 ·
  refine wp_drawn2 hI [0] (by decide) rfl (by kernel_rfl) (by kernel_rfl) ?_
  intro hsub
  refine alp 0 (.pointer (some ⟨b37, 1, none⟩)) hsub rfl (by kernel_rfl) (fun _ => (by kernel_rfl)) ?_
  refine al_light 1 (.slice Ap0_1 lp0_1.length cp0_1) hsub rfl (by kernel_rfl) (fun w hI => s_load1 hI 0 (.slice Ap0_1 lp0_1.length cp0_1) Try.isAgg22 rfl rfl rfl ⟨rfl, Below.refl _ _⟩) ?_
  refine alp 2 (iv p1) hsub rfl (by kernel_rfl) (fun _ => (by kernel_rfl)) ?_
  obtain ⟨b63, o64, hA65, hb66, he67⟩ := hCp0_1.at_ eCm_len (by decide) hx57
  refine al_light 3 (.pointer (some ⟨b63, o64 + (p1).toNat * 3, none⟩)) hsub rfl (by kernel_rfl) (fun w hI => s_indexA (p1).toNat Try.underlying22 Try.sizeOf26 rfl hA65 rfl (Int.toNat_of_nonneg h22).symm (lt_n hx57 rfl) ⟨rfl, Below.refl _ _⟩) ?_
  refine alp 4 (.pointer (some ⟨b63, o64 + (p1).toNat * 3 + 1, none⟩)) hsub rfl (by kernel_rfl) (fun _ => (by kernel_rfl)) ?_
  refine al_light 5 (iv x56.hrs) hsub rfl (by kernel_rfl) (fun w hI => s_loadB1 hI (iv x56.hrs) Try.isAgg3 rfl hb66 (by simp) (he67 1 _ rfl) ⟨rfl, Below.refl _ _⟩) ?_
  refine alp 6 (iv p2) hsub rfl (by kernel_rfl) (fun _ => (by kernel_rfl)) ?_
  refine al_light 7 (iv ((1 : Int) * 2 ^ (p2 : Int).toNat)) hsub rfl (by kernel_rfl) (fun w hI => s_shl rfl rfl h23 h24 ⟨rfl, Below.refl _ _⟩) ?_
  refine al_light 8 (iv (andI x56.hrs ((1 : Int) * 2 ^ (p2 : Int).toNat))) hsub rfl (by kernel_rfl) (fun w hI => s_and rfl rfl h25 h26 h27 h24 ⟨rfl, Below.refl _ _⟩) ?_
  refine al_light 9 (.bool false) hsub rfl (by kernel_rfl) (fun w hI => s_neq rfl rfl (fun h => absurd (a := (andI x56.hrs ((1 : Int) * 2 ^ (p2 : Int).toNat)) = 0) h28 h) (fun _ => ⟨rfl, Below.refl _ _⟩)) ?_
  refine alp 10 (.bool false) hsub rfl (by kernel_rfl) (fun _ => (by kernel_rfl)) ?_
  refine any_end (by kernel_rfl) (fun w hI => ?_)
  refine wp_ret ?_
  replace hF := Option.some.inj hF; subst hF
  exact ⟨.bool false, Ret.r1 rfl rfl, ⟨rfl, hI.below⟩⟩
 ·
  refine wp_drawn2 hI [0] (by decide) rfl (by kernel_rfl) (by kernel_rfl) ?_
  intro hsub
  refine alp 0 (.pointer (some ⟨b37, 1, none⟩)) hsub rfl (by kernel_rfl) (fun _ => (by kernel_rfl)) ?_
  refine al_light 1 (.slice Ap0_1 lp0_1.length cp0_1) hsub rfl (by kernel_rfl) (fun w hI => s_load1 hI 0 (.slice Ap0_1 lp0_1.length cp0_1) Try.isAgg22 rfl rfl rfl ⟨rfl, Below.refl _ _⟩) ?_
  refine alp 2 (iv p1) hsub rfl (by kernel_rfl) (fun _ => (by kernel_rfl)) ?_
  obtain ⟨b68, o69, hA70, hb71, he72⟩ := hCp0_1.at_ eCm_len (by decide) hx57
  refine al_light 3 (.pointer (some ⟨b68, o69 + (p1).toNat * 3, none⟩)) hsub rfl (by kernel_rfl) (fun w hI => s_indexA (p1).toNat Try.underlying22 Try.sizeOf26 rfl hA70 rfl (Int.toNat_of_nonneg h22).symm (lt_n hx57 rfl) ⟨rfl, Below.refl _ _⟩) ?_
  refine alp 4 (.pointer (some ⟨b68, o69 + (p1).toNat * 3 + 1, none⟩)) hsub rfl (by kernel_rfl) (fun _ => (by kernel_rfl)) ?_
  refine al_light 5 (iv x56.hrs) hsub rfl (by kernel_rfl) (fun w hI => s_loadB1 hI (iv x56.hrs) Try.isAgg3 rfl hb71 (by simp) (he72 1 _ rfl) ⟨rfl, Below.refl _ _⟩) ?_
  refine alp 6 (iv p2) hsub rfl (by kernel_rfl) (fun _ => (by kernel_rfl)) ?_
  refine al_light 7 (iv ((1 : Int) * 2 ^ (p2 : Int).toNat)) hsub rfl (by kernel_rfl) (fun w hI => s_shl rfl rfl h23 h24 ⟨rfl, Below.refl _ _⟩) ?_
  refine al_light 8 (iv (andI x56.hrs ((1 : Int) * 2 ^ (p2 : Int).toNat))) hsub rfl (by kernel_rfl) (fun w hI => s_and rfl rfl h25 h26 h27 h24 ⟨rfl, Below.refl _ _⟩) ?_
  refine al_light 9 (.bool true) hsub rfl (by kernel_rfl) (fun w hI => s_neq rfl rfl (fun _ => ⟨rfl, Below.refl _ _⟩) (fun h => absurd (a := (andI x56.hrs ((1 : Int) * 2 ^ (p2 : Int).toNat)) = 0) h h28)) ?_
  refine alp 10 (.bool true) hsub rfl (by kernel_rfl) (fun _ => (by kernel_rfl)) ?_
  refine any_end (by kernel_rfl) (fun w hI => ?_)
  refine wp_ret ?_
  replace hF := Option.some.inj hF; subst hF
  exact ⟨.bool true, Ret.r1 rfl rfl, ⟨rfl, hI.below⟩⟩


theorem L62 (w0 : World) (p0_0 : Int) (Ap0_1 : Option Addr) (cp0_1 : Nat) (lp0_1 : List Cm) (Ap1 : Option Addr) (cp1 : Nat) (lp1 : List Int) (hCp0_1 : Cells w0 Ap0_1 (flat eCm lp0_1)) (hMp0_1 : lp0_1.length ≤ 9223372036854775807) (hKp0_1 : lp0_1.length ≤ cp0_1) (hCp1 : Cells w0 Ap1 (flat eInt lp1)) (hMp1 : lp1.length ≤ 9223372036854775807) (hKp1 : lp1.length ≤ cp1) (N : Nat) (r : (List Int × Bool)) (hF : F62 N p0_0 lp0_1 lp1 = some r) : Does Try.prog 62 [.agg #[.int .i64 p0_0, .slice Ap0_1 lp0_1.length cp0_1], .slice Ap1 lp1.length cp1] w0 fun v w => ∃ (z0 : Option Nat) (z1 : Nat) (z2 : List Value), v = .tuple #[slv z0 r.1.length z1, .bool r.2] ∧ Inv [] w0 w [(z0, blk z2 3)] ∧ Row 1 z0 r.1.length z1 z2 (flat eInt r.1) := by
 refine calls_of (n := 54) Try.func62 rfl Try.ntmps62 rfl ?_
 have hI := Inv.start w0
 unfold F62 at hF
 refine wp_seq (rgn (by kernel_rfl) (seq_c (s_boxI hI [iv p0_0, .slice Ap0_1 lp0_1.length cp0_1] rfl ?_)))
 intro b615 w hI
 refine pu (.slice none 0 0) (by kernel_rfl) (pu (.bool false) (by kernel_rfl) (seq_nil (wp_seq (rgn (by kernel_rfl) (pu (.pointer (some ⟨b615, 1, none⟩)) (by kernel_rfl) (seq_c (s_load1 hI 0 (.slice Ap0_1 lp0_1.length cp0_1) Try.isAgg22 rfl rfl rfl ?_)))))))
 refine pu (iv ((lp0_1.length : Nat) : Int)) (by kernel_rfl) (gdE hF (fun h239 hF => ?_))
 refine gdE hF (fun h240 hF => ?_)
 refine seq_c (s_makeRowN hI (enc := eInt) eInt_len (by decide) ((0 : Int)) Try.underlying49 (z := iv 0) (k := 1) (bytes := 8) (by kernel_rfl) rfl ((lp0_1.length : Int)).toNat (congrArg (Value.int .i64) (Int.toNat_of_nonneg h239).symm) (congrArg (Value.int .i64) (Int.toNat_of_nonneg h239).symm) (by omega) (by decide) ?_)
 intro b619 cl620 w hI r621
 refine pu (slv (some b619) ((List.replicate ((lp0_1.length : Int)).toNat (0 : Int)).length) (((lp0_1.length : Int)).toNat)) (by kernel_rfl) (seq_nil (wp_seq (wp_seq (rgn (by kernel_rfl) (pu (.slice Ap1 lp1.length cp1) (by kernel_rfl) (pu (iv ((lp1.length : Nat) : Int)) (by kernel_rfl) (pu (.pointer (some ⟨b615, 0, none⟩)) (by kernel_rfl) (seq_c (s_load1 hI 1 (iv p0_0) Try.isAgg3 rfl rfl rfl ?_)))))))))
 refine ifE hF (fun h244 hF => ?_) (fun h244 hF => ?_)
 ·
  refine seq_c (s_neq rfl rfl (fun h => absurd (a := (lp1.length : Int) = p0_0) h244 h) (fun _ => ?_))
  refine seq_nil (wp_condF rfl (wp_skip (wp_seq (wp_seq (rgn (by kernel_rfl) (pu (iv 0) (by kernel_rfl) (seq_nil (wp_block ?_))))))))
  refine wp_loop (fun m ρ w => ∃ (g1127 : Option Nat) (c1128 : Nat) (cl1129 : List Value) (out_1126 : List Int) (h_1131 : Int) (mm : Nat), Agree ρ [(1, .slice Ap1 lp1.length cp1), (2, .pointer (some ⟨b615, 0, none⟩)), (6, slv g1127 out_1126.length c1128), (7, iv h_1131)] ∧ Inv [] w0 w [(some b615, blk [iv p0_0, .slice Ap0_1 lp0_1.length cp0_1] 24), (g1127, blk cl1129 3)] ∧ (Row 1 g1127 (out_1126.length) c1128 cl1129 (flat eInt out_1126)) ∧ F62l1 p0_0 lp0_1 lp1 N mm out_1126 h_1131 = some r ∧ mm = m) (m := N) ⟨some b619, ((lp0_1.length : Int)).toNat, cl620, List.replicate ((lp0_1.length : Int)).toNat (0 : Int), 0, N, ⟨rfl, rfl, rfl, rfl, trivial⟩, hI.pickL [1, 0] (by decide) rfl, (r621.to rfl rfl), hF, rfl⟩ ?_
  rintro m ρ w ⟨g1127, c1128, cl1129, out_1126, h_1131, mm, hag, hI, r1130, hF, hm⟩
  subst hm; obtain ⟨ρ, rfl⟩ := hag.form; clear hag
  obtain _ | m1 := mm
  ·cases (show (none : Option (List Int × Bool)) = some r from hF)
  replace hF : F62b1 p0_0 lp0_1 lp1 N (F62l1 p0_0 lp0_1 lp1 N m1) out_1126 h_1131 = some r := hF; unfold F62b1 at hF
  refine wp_seq (wp_seq (rgn (by kernel_rfl) (pu (iv h_1131) (by kernel_rfl) (pu (.slice Ap1 lp1.length cp1) (by kernel_rfl) (pu (iv ((lp1.length : Nat) : Int)) (by kernel_rfl) (ifE hF (fun h435 hF => ?_) (fun h435 hF => ?_)))))))
  ·
   refine seq_c (s_lss rfl rfl (fun _ => ?_) (fun h => absurd (a := h_1131 < (lp1.length : Int)) h435 h))
   refine seq_nil (wp_condT rfl (wp_skip (wp_cutO (fun ρ w => ∃ (g1179 : Option Nat) (c1180 : Nat) (cl1181 : List Value) (out_1178 : List Int), Agree ρ [(1, .slice Ap1 lp1.length cp1), (2, .pointer (some ⟨b615, 0, none⟩)), (6, slv g1179 out_1178.length c1180), (7, iv h_1131)] ∧ Inv [] w0 w [(some b615, blk [iv p0_0, .slice Ap0_1 lp0_1.length cp0_1] 24), (g1179, blk cl1181 3)] ∧ (Row 1 g1179 (out_1178.length) c1180 cl1181 (flat eInt out_1178)) ∧ F62j2 (F62l1 p0_0 lp0_1 lp1 N m1) h_1131 out_1178 = some r) ?_ ?_)))
   ·
    refine wp_block ?_
    refine wp_seq (wp_seq (rgn (by kernel_rfl) (pu (.slice Ap1 lp1.length cp1) (by kernel_rfl) (pu (iv h_1131) (by kernel_rfl) (gdE hF (fun h461 hF => ?_))))))
    refine bindE hF (fun x1204 hx1205 hF => ?_)
    obtain ⟨b1206, o1207, hA1208, hb1209, he1210⟩ := hCp1.at_ eInt_len (by decide) hx1205
    refine seq_c (s_indexA (h_1131).toNat Try.underlying49 Try.sizeOf3 rfl hA1208 rfl (Int.toNat_of_nonneg h461).symm (lt_n hx1205 rfl) ?_)
    refine seq_c (s_loadB1 hI (iv x1204) Try.isAgg3 rfl hb1209 (by simp) (he1210 0 _ rfl) ?_)
    refine ifE hF (fun h462 hF => ?_) (fun h462 hF => ?_)
    ·
     refine seq_c (s_eql rfl rfl (fun _ => ?_) (fun h => absurd (a := x1204 = 0) h462 h))
     refine seq_nil (wp_condT rfl (wp_exit ?_))
     exact .inl ⟨rfl, ⟨g1127, c1128, cl1129, out_1126, ⟨rfl, rfl, rfl, rfl, trivial⟩, hI.pickL [0, 1] (by decide) rfl, (r1130.to rfl rfl), hF⟩⟩
    ·
     refine seq_c (s_eql rfl rfl (fun h => absurd (a := x1204 = 0) h h462) (fun _ => ?_))
     refine seq_nil (wp_condF rfl (wp_skip (wp_seq (bindE hF (fun y1213 hy1214 hF => ?_)))))
     refine wp_drawn2 hI [0, 1] (by decide) rfl (by kernel_rfl) (by kernel_rfl) ?_
     intro hsub
     refine al_light 0 (.agg #[iv p0_0, .slice Ap0_1 lp0_1.length cp0_1]) hsub rfl (by kernel_rfl) (fun w hI => s_loadK hI 0 2 [iv p0_0, .slice Ap0_1 lp0_1.length cp0_1] Try.isAgg24 Try.sizeOf24 rfl rfl rfl rfl ⟨rfl, Below.refl _ _⟩) ?_
     refine alp 1 (.slice Ap1 lp1.length cp1) hsub rfl (by kernel_rfl) (fun _ => (by kernel_rfl)) ?_
     refine alp 2 (iv h_1131) hsub rfl (by kernel_rfl) (fun _ => (by kernel_rfl)) ?_
     refine al_light 3 (.pointer (some ⟨b1206, o1207 + (h_1131).toNat * 1, none⟩)) hsub rfl (by kernel_rfl) (fun w hI => s_indexA (h_1131).toNat Try.underlying49 Try.sizeOf3 rfl hA1208 rfl (Int.toNat_of_nonneg h461).symm (lt_n hx1205 rfl) ⟨rfl, Below.refl _ _⟩) ?_
     refine al_light 4 (iv x1204) hsub rfl (by kernel_rfl) (fun w hI => s_loadB1 hI (iv x1204) Try.isAgg3 rfl hb1209 (by simp) (he1210 0 _ rfl) ⟨rfl, Below.refl _ _⟩) ?_
     refine al_light 5 (iv y1213) hsub rfl (by kernel_rfl) (fun w hI => s_call 65 [.agg #[iv p0_0, .slice Ap0_1 lp0_1.length cp0_1], iv x1204] (by kernel_rfl) (L65 _ p0_0 Ap0_1 cp0_1 lp0_1 x1204 (hCp0_1.inv0 hI) hMp0_1 hKp0_1 N _ hy1214) (fun v' w' h => h)) ?_
     refine alp 6 (iv y1213) hsub rfl (by kernel_rfl) (fun _ => (by kernel_rfl)) ?_
     refine any_end (by kernel_rfl) (fun w hI => ?_)
     refine wp_seq (wp_seq (rgn (by kernel_rfl) (pu (iv y1213) (by kernel_rfl) (ifE hF (fun h469 hF => ?_) (fun h469 hF => ?_)))))
     ·
      refine seq_c (s_lss rfl rfl (fun _ => ?_) (fun h => absurd (a := y1213 < 0) h469 h))
      refine pu (.bool true) (by kernel_rfl) (of_ (by kernel_rfl) (of_ (by kernel_rfl) (of_ (by kernel_rfl) (of_ (by kernel_rfl) (of_ (by kernel_rfl) (of_ (by kernel_rfl) (pu (.bool true) (by kernel_rfl) (seq_nil (wp_condT rfl ?_)))))))))
      refine wp_seq (rgn (by kernel_rfl) (pu (slv g1127 out_1126.length c1128) (by kernel_rfl) (pu (slv g1127 out_1126.length c1128) (by kernel_rfl) (pu (.bool false) (by kernel_rfl) (seq_nil (wp_ret ?_))))))
      replace hF := Option.some.inj hF; subst hF
      exact ⟨.tuple #[slv g1127 out_1126.length c1128, .bool false], Ret.r2 rfl rfl rfl, ⟨g1127, c1128, cl1129, rfl, hI.pickL [1] (by decide) rfl, r1130.to rfl rfl⟩⟩
     ·
      refine seq_c (s_lss rfl rfl (fun h => absurd (a := y1213 < 0) h h469) (fun _ => ?_))
      refine pu (.bool false) (by kernel_rfl) (seq_on (by kernel_rfl) (s_loadK hI 0 2 [iv p0_0, .slice Ap0_1 lp0_1.length cp0_1] Try.isAgg24 Try.sizeOf24 rfl rfl rfl rfl ?_))
      refine puo (iv y1213) ⟨(by kernel_rfl), (by kernel_rfl)⟩ (puo (iv (if 0 > y1213 then 0 else y1213)) ⟨(by kernel_rfl), (by kernel_rfl)⟩ (puo (iv h_1131) ⟨(by kernel_rfl), (by kernel_rfl)⟩ (bindE hF (fun y1221 hy1222 hF => ?_))))
      refine ifE hF (fun h470 hF => ?_) (fun h470 hF => ?_)
      ·
       refine seq_on (by kernel_rfl) (s_callv hI 94 [.agg #[iv p0_0, .slice Ap0_1 lp0_1.length cp0_1], iv (if 0 > y1213 then 0 else y1213), iv h_1131] (.bool true) (by kernel_rfl) (Does.mono (L94 _ p0_0 Ap0_1 cp0_1 lp0_1 (if 0 > y1213 then 0 else y1213) h_1131 (hCp0_1.inv0 hI) hMp0_1 hKp0_1 _ hy1222) (fun v' w' h => ⟨h.1.trans (congrArg Value.bool h470), h.2⟩)) ?_)
       intro w hI
       refine puo (.bool false) ⟨(by kernel_rfl), (by kernel_rfl)⟩ (pu (.bool false) (by kernel_rfl) (seq_nil (wp_condF rfl (wp_skip (rgn (by kernel_rfl) (pu (slv g1127 out_1126.length c1128) (by kernel_rfl) (pu (iv y1213) (by kernel_rfl) (gdE hF (fun h471 hF => ?_)))))))))
       refine bindE hF (fun x1223 hx1224 hF => ?_)
       obtain ⟨b1225, rfl, he1226⟩ := r1130.at_ eInt_len (by decide) hx1224
       refine seq_c (s_indexR (y1213).toNat Try.underlying49 Try.sizeOf3 rfl rfl (Int.toNat_of_nonneg h471).symm (lt_n hx1224 rfl) ?_)
       refine seq_c (s_loadR1 hI 1 (iv x1223) Try.isAgg3 rfl rfl (he1226 0 _ rfl) ?_)
       refine ckE hF (fun h472 hF => ?_)
       refine seq_c (s_add rfl rfl h472 ?_)
       refine seq_c (s_indexR (y1213).toNat Try.underlying49 Try.sizeOf3 rfl rfl (Int.toNat_of_nonneg h471).symm (lt_n hx1224 rfl) ?_)
       have := lt_n hx1224 rfl
       refine seq_c (s_store hI 1 1 [iv (x1223 + 1)] Try.sizeOf3 rfl rfl rfl rfl rfl (r1130.room (by omega)) ?_)
       intro w hI
       have r1227 := r1130.put eInt_len (by decide) (y1213).toNat (x1223 + 1) (by omega)
       obtain ⟨cl1228, hcl⟩ : ∃ z, z = putCells cl1129 ((y1213).toNat * 1) (eInt (x1223 + 1)) := ⟨_, rfl⟩
       rw [← hcl] at r1227
       have hI : Inv [] w0 w [(some b615, blk [iv p0_0, .slice Ap0_1 lp0_1.length cp0_1] 24), (some b1225, blk cl1228 3)] := by rw [hcl]; exact hI
       clear hcl
       refine seq_nil ?_
       exact .inl ⟨rfl, ⟨some b1225, c1128, cl1228, (out_1126).set (y1213).toNat (x1223 + 1), ⟨rfl, rfl, (slv_n (set_len rfl)), rfl, trivial⟩, hI.pickL [0, 1] (by decide) rfl, (r1227.to rfl (set_len rfl)), hF⟩⟩
      ·
       refine seq_on (by kernel_rfl) (s_callv hI 94 [.agg #[iv p0_0, .slice Ap0_1 lp0_1.length cp0_1], iv (if 0 > y1213 then 0 else y1213), iv h_1131] (.bool false) (by kernel_rfl) (Does.mono (L94 _ p0_0 Ap0_1 cp0_1 lp0_1 (if 0 > y1213 then 0 else y1213) h_1131 (hCp0_1.inv0 hI) hMp0_1 hKp0_1 _ hy1222) (fun v' w' h => ⟨h.1.trans (congrArg Value.bool (Bool.eq_false_iff.2 h470)), h.2⟩)) ?_)
       intro w hI
       refine puo (.bool true) ⟨(by kernel_rfl), (by kernel_rfl)⟩ (pu (.bool true) (by kernel_rfl) (seq_nil (wp_condT rfl (wp_seq (rgn (by kernel_rfl) (pu (slv g1127 out_1126.length c1128) (by kernel_rfl) (pu (slv g1127 out_1126.length c1128) (by kernel_rfl) (pu (.bool false) (by kernel_rfl) (seq_nil ?_)))))))))
       refine wp_ret ?_
       replace hF := Option.some.inj hF; subst hF
       exact ⟨.tuple #[slv g1127 out_1126.length c1128, .bool false], Ret.r2 rfl rfl rfl, ⟨g1127, c1128, cl1129, rfl, hI.pickL [1] (by decide) rfl, r1130.to rfl rfl⟩⟩
   ·intro ρ w hJ
    obtain ⟨g1179, c1180, cl1181, out_1178, hag, hI, r1182, hF⟩ := hJ
    obtain ⟨ρ, rfl⟩ := hag.form; clear hag
    unfold F62j2 at hF
    refine rgn (by kernel_rfl) (pu (iv h_1131) (by kernel_rfl) (ckE hF (fun h454 hF => ?_)))
    refine seq_c (s_add rfl rfl h454 ?_)
    refine pu (iv (h_1131 + 1)) (by kernel_rfl) (seq_nil ?_)
    exact ⟨rfl, m1, Nat.lt_succ_self _, ⟨g1179, c1180, cl1181, out_1178, h_1131 + 1, m1, ⟨rfl, rfl, rfl, rfl, trivial⟩, hI.pickL [0, 1] (by decide) rfl, (r1182.to rfl rfl), hF, rfl⟩⟩
  ·
   refine seq_c (s_lss rfl rfl (fun h => absurd (a := h_1131 < (lp1.length : Int)) h h435) (fun _ => ?_))
   refine seq_nil (wp_condF rfl (wp_exit ?_))
   refine wp_seq (rgn (by kernel_rfl) (pu (slv g1127 out_1126.length c1128) (by kernel_rfl) (pu (slv g1127 out_1126.length c1128) (by kernel_rfl) (pu (.bool true) (by kernel_rfl) (seq_nil (wp_ret ?_))))))
   replace hF := Option.some.inj hF; subst hF
   exact ⟨.tuple #[slv g1127 out_1126.length c1128, .bool true], Ret.r2 rfl rfl rfl, ⟨g1127, c1128, cl1129, rfl, hI.pickL [1] (by decide) rfl, r1130.to rfl rfl⟩⟩
 ·
  refine seq_c (s_neq rfl rfl (fun _ => ?_) (fun h => absurd (a := (lp1.length : Int) = p0_0) h h244))
  refine seq_nil (wp_condT rfl (wp_seq (rgn (by kernel_rfl) (pu (slv (some b619) ((List.replicate ((lp0_1.length : Int)).toNat (0 : Int)).length) (((lp0_1.length : Int)).toNat)) (by kernel_rfl) (pu (slv (some b619) ((List.replicate ((lp0_1.length : Int)).toNat (0 : Int)).length) (((lp0_1.length : Int)).toNat)) (by kernel_rfl) (pu (.bool false) (by kernel_rfl) (seq_nil (wp_ret ?_))))))))
  replace hF := Option.some.inj hF; subst hF
  exact ⟨.tuple #[slv (some b619) ((List.replicate ((lp0_1.length : Int)).toNat (0 : Int)).length) (((lp0_1.length : Int)).toNat), .bool false], Ret.r2 rfl rfl rfl, ⟨some b619, ((lp0_1.length : Int)).toNat, cl620, rfl, hI.pickL [0] (by decide) rfl, r621.to rfl rfl⟩⟩


end Go.K
