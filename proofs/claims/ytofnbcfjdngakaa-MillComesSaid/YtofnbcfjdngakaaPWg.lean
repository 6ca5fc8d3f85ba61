/- That the functions do what the pure definitions say: walks, as tools/lift.py writes them. No condition. -/
import Derived.Test.YtofnbcfjdngakaaPWf
namespace Go.K
open Go.Proofs Go.RowKit
set_option linter.unusedVariables false
set_option linter.unusedSimpArgs false
set_option maxRecDepth 100000
attribute [local irreducible] Seq Step CallV AnyE opX
theorem L83 (w0 : World) (p0_0 : Int) (Ap0_1 : Option Addr) (cp0_1 : Nat) (lp0_1 : List Cm) (hCp0_1 : Cells w0 Ap0_1 (flat eCm lp0_1)) (hMp0_1 : lp0_1.length ≤ 9223372036854775807) (hKp0_1 : lp0_1.length ≤ cp0_1) (N : Nat) (r : List Int) (hF : F83 N p0_0 lp0_1 = some r) : Does Try.prog 83 [.agg #[.int .i64 p0_0, .slice Ap0_1 lp0_1.length cp0_1]] w0 fun v w => ∃ (z0 : Option Nat) (z1 : Nat) (z2 : List Value), v = slv z0 r.length z1 ∧ Inv [] w0 w [(z0, blk z2 3)] ∧ Row 1 z0 r.length z1 z2 (flat eInt r) := by
 refine calls_of (n := 65) Try.func83 rfl Try.ntmps83 rfl ?_
 have hI := Inv.start w0
 unfold F83 at hF
 refine wp_seq (rgn (by kernel_rfl) (seq_c (s_boxI hI [iv p0_0, .slice Ap0_1 lp0_1.length cp0_1] rfl ?_)))
 intro b13619 w hI
 refine pu (.slice none 0 0) (by kernel_rfl) (seq_nil (wp_seq (rgn (by kernel_rfl) (pu (.pointer (some ⟨b13619, 1, none⟩)) (by kernel_rfl) (seq_c (s_load1 hI 0 (.slice Ap0_1 lp0_1.length cp0_1) Try.isAgg22 rfl rfl rfl ?_))))))
 refine pu (iv ((lp0_1.length : Nat) : Int)) (by kernel_rfl) (gdE hF (fun h1227 hF => ?_))
 refine gdE hF (fun h1228 hF => ?_)
 refine seq_c (s_makeRowN hI (enc := eInt) eInt_len (by decide) ((0 : Int)) Try.underlying49 (z := iv 0) (k := 1) (bytes := 8) (by kernel_rfl) rfl ((lp0_1.length : Int)).toNat (congrArg (Value.int .i64) (Int.toNat_of_nonneg h1227).symm) (congrArg (Value.int .i64) (Int.toNat_of_nonneg h1227).symm) (by omega) (by decide) ?_)
 intro b13623 cl13624 w hI r13625
 refine pu (slv (some b13623) ((List.replicate ((lp0_1.length : Int)).toNat (0 : Int)).length) (((lp0_1.length : Int)).toNat)) (by kernel_rfl) (seq_nil (wp_seq (rgn (by kernel_rfl) (seq_c (s_loadK hI 1 2 [iv p0_0, .slice Ap0_1 lp0_1.length cp0_1] Try.isAgg24 Try.sizeOf24 rfl rfl rfl rfl ?_)))))
 refine pu (slv (some b13623) ((List.replicate ((lp0_1.length : Int)).toNat (0 : Int)).length) (((lp0_1.length : Int)).toNat)) (by kernel_rfl) (bindE hF (fun y13633 hy13634 hF => ?_))
 refine seq_c (s_call 81 [.agg #[iv p0_0, .slice Ap0_1 lp0_1.length cp0_1], slv (some b13623) ((List.replicate ((lp0_1.length : Int)).toNat (0 : Int)).length) (((lp0_1.length : Int)).toNat)] (by kernel_rfl) (L81 _ p0_0 Ap0_1 cp0_1 lp0_1 ((some b13623).map fun b => ⟨b, 0, none⟩) (((lp0_1.length : Int)).toNat) (List.replicate ((lp0_1.length : Int)).toNat (0 : Int)) (hCp0_1.inv0 hI) hMp0_1 hKp0_1 (hI.rowCells 0 rfl r13625) (len_le rfl r13625.big) (len_le rfl r13625.cap) N _ hy13634) ?_)
 rintro v w ⟨g13635, c13636, cl13637, rfl, hN, r13638⟩
 have hI := hI.join hN; clear hN
 refine pu (.tuple #[.agg #[slv g13635 y13633.1.length c13636], .bool y13633.2]) (by kernel_rfl) (pu (.agg #[slv g13635 y13633.1.length c13636]) (by kernel_rfl) (pu (.bool y13633.2) (by kernel_rfl) (seq_c (s_allocI hI [.slice none 0 0] Try.zeroValue97 rfl ?_))))
 intro b13639 w hI
 refine seq_c (s_store hI 0 1 [slv g13635 y13633.1.length c13636] Try.sizeOf97 rfl rfl rfl rfl rfl (Nat.le_of_ble_eq_true rfl) ?_)
 intro w hI
 refine pu (.bool y13633.2) (by kernel_rfl) (seq_nil (wp_seq (wp_seq (rgn (by kernel_rfl) (pu (iv 1) (by kernel_rfl) (seq_nil (wp_block ?_)))))))
 refine wp_loop (fun m ρ w => ∃ (g24953 : Option Nat) (c24954 : Nat) (cl24955 : List Value) (g24958 : Option Nat) (c24959 : Nat) (cl24960 : List Value) (u24952 : List Int) (u24957 : List Int) (v24962 : Int) (mm : Nat), Agree ρ [(1, .pointer (some ⟨b13619, 0, none⟩)), (3, slv g24953 u24952.length c24954), (4, .pointer (some ⟨b13639, 0, none⟩)), (6, iv v24962)] ∧ Inv [] w0 w [(some b13619, blk [iv p0_0, .slice Ap0_1 lp0_1.length cp0_1] 24), (g24953, blk cl24955 3), (some b13639, blk [slv g24958 u24957.length c24959] 97), (g24958, blk cl24960 3)] ∧ (Row 1 g24953 (u24952.length) c24954 cl24955 (flat eInt u24952)) ∧ (Row 1 g24958 (u24957.length) c24959 cl24960 (flat eInt u24957)) ∧ F83l1 p0_0 lp0_1 N mm u24952 u24957 v24962 = some r ∧ mm = m) (m := N) ⟨some b13623, ((lp0_1.length : Int)).toNat, cl13624, g13635, c13636, cl13637, List.replicate ((lp0_1.length : Int)).toNat (0 : Int), y13633.1, 1, N, ⟨rfl, rfl, rfl, rfl, trivial⟩, hI.pickL [3, 2, 0, 1] (by decide) rfl, (r13625.to rfl rfl), (r13638.to rfl rfl), hF, rfl⟩ ?_
 rintro m ρ w ⟨g24953, c24954, cl24955, g24958, c24959, cl24960, u24952, u24957, v24962, mm, hag, hI, r24956, r24961, hF, hm⟩
 subst hm; obtain ⟨ρ, rfl⟩ := hag.form; clear hag
 obtain _ | m1 := mm
 ·cases (show (none : Option (List Int)) = some r from hF)
 replace hF : F83b1 p0_0 lp0_1 N (F83l1 p0_0 lp0_1 N m1) u24952 u24957 v24962 = some r := hF; unfold F83b1 at hF
 refine wp_seq (wp_seq (rgn (by kernel_rfl) (pu (iv v24962) (by kernel_rfl) (ifE hF (fun h2231 hF => ?_) (fun h2231 hF => ?_)))))
 ·
  refine seq_c (s_leq rfl rfl (fun _ => ?_) (fun h => absurd (a := v24962 ≤ 24) h2231 h))
  refine seq_nil (wp_condT rfl (wp_skip (wp_cutO (fun ρ w => ∃ (g26096 : Option Nat) (c26097 : Nat) (cl26098 : List Value) (g26101 : Option Nat) (c26102 : Nat) (cl26103 : List Value) (u26095 : List Int) (u26100 : List Int), Agree ρ [(1, .pointer (some ⟨b13619, 0, none⟩)), (3, slv g26096 u26095.length c26097), (4, .pointer (some ⟨b13639, 0, none⟩)), (6, iv v24962)] ∧ Inv [] w0 w [(some b13619, blk [iv p0_0, .slice Ap0_1 lp0_1.length cp0_1] 24), (g26096, blk cl26098 3), (some b13639, blk [slv g26101 u26100.length c26102] 97), (g26101, blk cl26103 3)] ∧ (Row 1 g26096 (u26095.length) c26097 cl26098 (flat eInt u26095)) ∧ (Row 1 g26101 (u26100.length) c26102 cl26103 (flat eInt u26100)) ∧ F83j2 (F83l1 p0_0 lp0_1 N m1) v24962 u26095 u26100 = some r) ?_ ?_)))
  ·
   refine wp_block ?_
   refine wp_seq (rgn (by kernel_rfl) (pu (iv 0) (by kernel_rfl) (seq_nil (wp_block ?_))))
   refine wp_loop (fun m ρ w => ∃ (g26857 : Option Nat) (c26858 : Nat) (cl26859 : List Value) (g26862 : Option Nat) (c26863 : Nat) (cl26864 : List Value) (u26856 : List Int) (u26861 : List Int) (v26866 : Int) (mm : Nat), Agree ρ [(1, .pointer (some ⟨b13619, 0, none⟩)), (3, slv g26857 u26856.length c26858), (4, .pointer (some ⟨b13639, 0, none⟩)), (6, iv v24962), (7, iv v26866)] ∧ Inv [] w0 w [(some b13619, blk [iv p0_0, .slice Ap0_1 lp0_1.length cp0_1] 24), (g26857, blk cl26859 3), (some b13639, blk [slv g26862 u26861.length c26863] 97), (g26862, blk cl26864 3)] ∧ (Row 1 g26857 (u26856.length) c26858 cl26859 (flat eInt u26856)) ∧ (Row 1 g26862 (u26861.length) c26863 cl26864 (flat eInt u26861)) ∧ F83l3 p0_0 lp0_1 N (F83l1 p0_0 lp0_1 N m1) v24962 mm u26856 u26861 v26866 = some r ∧ mm = m) (m := N) ⟨g24953, c24954, cl24955, g24958, c24959, cl24960, u24952, u24957, 0, N, ⟨rfl, rfl, rfl, rfl, rfl, trivial⟩, hI.pickL [0, 1, 2, 3] (by decide) rfl, (r24956.to rfl rfl), (r24961.to rfl rfl), hF, rfl⟩ ?_
   rintro m ρ w ⟨g26857, c26858, cl26859, g26862, c26863, cl26864, u26856, u26861, v26866, mm, hag, hI, r26860, r26865, hF, hm⟩
   subst hm; obtain ⟨ρ, rfl⟩ := hag.form; clear hag
   obtain _ | m3 := mm
   ·cases (show (none : Option (List Int)) = some r from hF)
   replace hF : F83b3 p0_0 lp0_1 N (F83l1 p0_0 lp0_1 N m1) v24962 (F83l3 p0_0 lp0_1 N (F83l1 p0_0 lp0_1 N m1) v24962 m3) u26856 u26861 v26866 = some r := hF; unfold F83b3 at hF
   refine wp_seq (wp_seq (rgn (by kernel_rfl) (pu (iv v26866) (by kernel_rfl) (pu (.pointer (some ⟨b13619, 1, none⟩)) (by kernel_rfl) (seq_c (s_load1 hI 0 (.slice Ap0_1 lp0_1.length cp0_1) Try.isAgg22 rfl rfl rfl ?_))))))
   refine pu (iv ((lp0_1.length : Nat) : Int)) (by kernel_rfl) (ifE hF (fun h2413 hF => ?_) (fun h2413 hF => ?_))
   ·
    refine seq_c (s_lss rfl rfl (fun _ => ?_) (fun h => absurd (a := v26866 < (lp0_1.length : Int)) h2413 h))
    refine seq_nil (wp_condT rfl (wp_skip (wp_cutO (fun ρ w => ∃ (g27048 : Option Nat) (c27049 : Nat) (cl27050 : List Value) (g27053 : Option Nat) (c27054 : Nat) (cl27055 : List Value) (u27047 : List Int) (u27052 : List Int), Agree ρ [(1, .pointer (some ⟨b13619, 0, none⟩)), (3, slv g27048 u27047.length c27049), (4, .pointer (some ⟨b13639, 0, none⟩)), (6, iv v24962), (7, iv v26866)] ∧ Inv [] w0 w [(some b13619, blk [iv p0_0, .slice Ap0_1 lp0_1.length cp0_1] 24), (g27048, blk cl27050 3), (some b13639, blk [slv g27053 u27052.length c27054] 97), (g27053, blk cl27055 3)] ∧ (Row 1 g27048 (u27047.length) c27049 cl27050 (flat eInt u27047)) ∧ (Row 1 g27053 (u27052.length) c27054 cl27055 (flat eInt u27052)) ∧ F83j4 (F83l3 p0_0 lp0_1 N (F83l1 p0_0 lp0_1 N m1) v24962 m3) v26866 u27047 u27052 = some r) ?_ ?_)))
    ·
     refine wp_block ?_
     refine wp_seq (wp_cutO (fun ρ w => ∃ (g27094 : Option Nat) (c27095 : Nat) (cl27096 : List Value), Agree ρ [(1, .pointer (some ⟨b13619, 0, none⟩)), (3, slv g27094 u26856.length c27095), (4, .pointer (some ⟨b13639, 0, none⟩)), (6, iv v24962), (7, iv v26866), (47, .bool true)] ∧ Inv [] w0 w [(some b13619, blk [iv p0_0, .slice Ap0_1 lp0_1.length cp0_1] 24), (g27094, blk cl27096 3), (some b13639, blk [slv g26862 u26861.length c26863] 97), (g26862, blk cl26864 3)] ∧ (Row 1 g27094 (u26856.length) c27095 cl27096 (flat eInt u26856)) ∧ F83j5 (F83l3 p0_0 lp0_1 N (F83l1 p0_0 lp0_1 N m1) v24962 m3) u26856 u26861 v26866 = some r) ?_ ?_)
     ·
      refine rgn (by kernel_rfl) (pu (.pointer (some ⟨b13619, 1, none⟩)) (by kernel_rfl) (seq_c (s_load1 hI 0 (.slice Ap0_1 lp0_1.length cp0_1) Try.isAgg22 rfl rfl rfl ?_)))
      refine pu (iv v26866) (by kernel_rfl) (gdE hF (fun h2444 hF => ?_))
      refine bindE hF (fun x27098 hx27099 hF => ?_)
      obtain ⟨b27100, o27101, hA27102, hb27103, he27104⟩ := hCp0_1.at_ eCm_len (by decide) hx27099
      refine seq_c (s_indexA (v26866).toNat Try.underlying22 Try.sizeOf26 rfl hA27102 rfl (Int.toNat_of_nonneg h2444).symm (lt_n hx27099 rfl) ?_)
      refine pu (.pointer (some ⟨b27100, o27101 + (v26866).toNat * 3 + 2, none⟩)) (by kernel_rfl) (seq_c (s_loadB1 hI (iv x27098.wants) Try.isAgg3 rfl hb27103 (by simp) (he27104 2 _ rfl) ?_))
      refine pu (iv v24962) (by kernel_rfl) (ifE hF (fun h2445 hF => ?_) (fun h2445 hF => ?_))
      ·
       refine seq_c (s_lss rfl rfl (fun _ => ?_) (fun h => absurd (a := x27098.wants < v24962) h2445 h))
       refine pu (.bool true) (by kernel_rfl) (of_ (by kernel_rfl) (of_ (by kernel_rfl) (of_ (by kernel_rfl) (of_ (by kernel_rfl) (of_ (by kernel_rfl) (of_ (by kernel_rfl) (of_ (by kernel_rfl) (pu (.bool true) (by kernel_rfl) (seq_nil ?_)))))))))
       exact .inl ⟨rfl, ⟨g26857, c26858, cl26859, ⟨rfl, rfl, rfl, rfl, rfl, rfl, trivial⟩, hI.pickL [0, 1, 2, 3] (by decide) rfl, (r26860.to rfl rfl), hF⟩⟩
      ·
       refine seq_c (s_lss rfl rfl (fun h => absurd (a := x27098.wants < v24962) h h2445) (fun _ => ?_))
       refine pu (.bool false) (by kernel_rfl) (puo (slv g26857 u26856.length c26858) ⟨(by kernel_rfl), (by kernel_rfl)⟩ (puo (iv v26866) ⟨(by kernel_rfl), (by kernel_rfl)⟩ (bindE hF (fun x27105 hx27106 hF => ?_))))
       obtain ⟨b27107, rfl, he27108⟩ := r26860.at_ eInt_len (by decide) hx27106
       refine seq_on (by kernel_rfl) (s_indexR (v26866).toNat Try.underlying49 Try.sizeOf3 rfl rfl (Int.toNat_of_nonneg h2444).symm (lt_n hx27106 rfl) ?_)
       refine seq_on (by kernel_rfl) (s_loadR1 hI 1 (iv x27105) Try.isAgg3 rfl rfl (he27108 0 _ rfl) ?_)
       refine puo (iv v24962) ⟨(by kernel_rfl), (by kernel_rfl)⟩ (ckE hF (fun h2446 hF => ?_))
       refine seq_on (by kernel_rfl) (s_sub rfl rfl h2446 ?_)
       refine ifE hF (fun h2447 hF => ?_) (fun h2447 hF => ?_)
       ·
        refine seq_on (by kernel_rfl) (s_neq rfl rfl (fun h => absurd (a := x27105 = (v24962 - 1)) h2447 h) (fun _ => ?_))
        refine pu (.bool false) (by kernel_rfl) (seq_nil (.inr ?_))
        refine wp_condF rfl (wp_skip (wp_cutO (fun ρ w => (∃ (b27168 : Nat), Agree ρ [(1, .pointer (some ⟨b13619, 0, none⟩)), (3, slv (some b27107) u26856.length c26858), (4, .pointer (some ⟨b13639, 0, none⟩)), (6, iv v24962), (7, iv v26866), (8, .pointer (some ⟨b27168, 0, none⟩)), (9, .bool false)] ∧ Inv [] w0 w [(some b13619, blk [iv p0_0, .slice Ap0_1 lp0_1.length cp0_1] 24), (some b27107, blk cl26859 3), (some b13639, blk [slv g26862 u26861.length c26863] 97), (g26862, blk cl26864 3), (some b27168, blk [slv g26862 u26861.length c26863] 97)] ∧ F83j6 (F83l3 p0_0 lp0_1 N (F83l1 p0_0 lp0_1 N m1) v24962 m3) u26856 u26861 v26866 = some r) ∨ (∃ (b27169 : Nat) (g27171 : Option Nat) (c27172 : Nat) (cl27173 : List Value) (u27170 : List Int), Agree ρ [(1, .pointer (some ⟨b13619, 0, none⟩)), (3, slv (some b27107) u26856.length c26858), (4, .pointer (some ⟨b13639, 0, none⟩)), (6, iv v24962), (7, iv v26866), (8, .pointer (some ⟨b27169, 0, none⟩)), (9, .bool true)] ∧ Inv [] w0 w [(some b13619, blk [iv p0_0, .slice Ap0_1 lp0_1.length cp0_1] 24), (some b27107, blk cl26859 3), (some b13639, blk [slv g26862 u26861.length c26863] 97), (g26862, blk cl26864 3), (some b27169, blk [slv g27171 u27170.length c27172] 97), (g27171, blk cl27173 3)] ∧ (Row 1 g27171 (u27170.length) c27172 cl27173 (flat eInt u27170)) ∧ F83j7 (F83l3 p0_0 lp0_1 N (F83l1 p0_0 lp0_1 N m1) v24962 m3) u26856 v26866 x27105 u27170 = some r)) ?_ ?_))
        ·
         refine bindSE hF (fun y27181 hy27182 hF => ?_) (fun y27183 hy27184 hF => ?_)
         ·
          refine wp_drawn2 hI [0, 1, 2, 3] (by decide) rfl (by kernel_rfl) (by kernel_rfl) ?_
          intro hsub
          refine al_light 0 (.agg #[iv p0_0, .slice Ap0_1 lp0_1.length cp0_1]) hsub rfl (by kernel_rfl) (fun w hI => s_loadK hI 0 2 [iv p0_0, .slice Ap0_1 lp0_1.length cp0_1] Try.isAgg24 Try.sizeOf24 rfl rfl rfl rfl ⟨rfl, Below.refl _ _⟩) ?_
          refine al_light 1 (.agg #[slv g26862 u26861.length c26863]) hsub rfl (by kernel_rfl) (fun w hI => s_loadK hI 2 1 [slv g26862 u26861.length c26863] Try.isAgg97 Try.sizeOf97 rfl rfl rfl rfl ⟨rfl, Below.refl _ _⟩) ?_
          refine alp 2 (iv v26866) hsub rfl (by kernel_rfl) (fun _ => (by kernel_rfl)) ?_
          refine any_heavy [3, 8] (by kernel_rfl) rfl (each2 ?_ ?_)
          ·intro w hI
           refine ol_c rfl (s_makeRowN hI (enc := eBool) eBool_len (by decide) (false) Try.underlying114 (z := .bool false) (k := 1) (bytes := 1) (by kernel_rfl) rfl 24 rfl rfl (by omega) (by decide) ?_)
           intro b27188 cl27189 w hI r27190
           refine ⟨_, hI, subk (fun _ h => h.pickL [1, 2, 3, 4] (by decide) rfl) ?_⟩
           intro hsub
           refine any_heavy [4, 8] (by kernel_rfl) rfl (each2 ?_ ?_)
           ·intro w hI
            refine ol_c rfl (s_call 106 [.agg #[iv p0_0, .slice Ap0_1 lp0_1.length cp0_1], .agg #[slv g26862 u26861.length c26863], iv v26866, slv (some b27188) ((List.replicate 24 false).length) 24] (by kernel_rfl) (L106 N _ b27188 p0_0 Ap0_1 cp0_1 lp0_1 (g26862.map fun b => ⟨b, 0, none⟩) c26863 u26861 v26866 ((List.replicate 24 false).length) 24 cl27189 (List.replicate 24 false) (hI.lend [0] (by decide) rfl rfl) (hI.apartL0 [0] rfl rfl hCp0_1) hMp0_1 hKp0_1 (hI.apartRowL [0] rfl rfl (i := 4) (by decide) rfl r26865) (len_le rfl r26865.big) (len_le rfl r26865.cap) r27190 _ hy27182) ?_)
            rintro v w ⟨cl27191, hv, hN, r27192⟩
            subst hv
            have hI := hI.backsL [0] [1, 2, 3, 4] (by decide) rfl rfl rfl hN; clear hN
            have hq : (List.replicate 24 false).length = y27181.length := r27192.n_eq eBool_len (by decide)
            rw [hq] at r27192; clear hq
            refine ⟨_, hI, subk (fun _ h => h.pickL [1, 2, 3, 4] (by decide) rfl) ?_⟩
            intro hsub
            refine alp 5 (.tuple #[.agg #[slv g26862 u26861.length c26863], .bool false]) hsub rfl (by kernel_rfl) (fun _ => (by kernel_rfl)) ?_
            refine alp 6 (.agg #[slv g26862 u26861.length c26863]) hsub rfl (by kernel_rfl) (fun _ => (by kernel_rfl)) ?_
            refine alp 7 (.bool false) hsub rfl (by kernel_rfl) (fun _ => (by kernel_rfl)) ?_
            refine any_heavy [8] (by kernel_rfl) rfl (each1 ?_)
            intro w hI
            refine ol_c rfl (s_allocI hI [.slice none 0 0] Try.zeroValue97 rfl ?_)
            intro b27193 w hI
            refine ⟨_, hI, subk (fun _ h => h.pickL [2, 3, 4, 5] (by decide) rfl) ?_⟩
            intro hsub
            refine any_heavy [9] (by kernel_rfl) rfl (each1 ?_)
            intro w hI
            refine ol_c rfl (s_store hI 0 1 [slv g26862 u26861.length c26863] Try.sizeOf97 rfl rfl rfl rfl rfl (Nat.le_of_ble_eq_true rfl) ?_)
            intro w hI
            refine ⟨_, hI, subk (fun _ h => h.pickL [2, 3, 4, 5] (by decide) rfl) ?_⟩
            intro hsub
            refine alp 10 (.bool false) hsub rfl (by kernel_rfl) (fun _ => (by kernel_rfl)) ?_
            refine any_end (by kernel_rfl) (fun w hI => ?_)
            exact .inl ⟨rfl, .inl ⟨b27193, ⟨rfl, rfl, rfl, rfl, rfl, rfl, rfl, trivial⟩, hI.pickL [2, 3, 4, 5, 0] (by decide) rfl, hF⟩⟩
           ·intro w hI
            refine ol_c rfl (s_allocI hI [.slice none 0 0] Try.zeroValue97 rfl ?_)
            intro b27194 w hI
            refine ⟨_, hI, subk (fun _ h => h.pickL [2, 3, 4, 5] (by decide) rfl) ?_⟩
            intro hsub
            refine any_heavy [4] (by kernel_rfl) rfl (each1 ?_)
            intro w hI
            refine ol_c rfl (s_call 106 [.agg #[iv p0_0, .slice Ap0_1 lp0_1.length cp0_1], .agg #[slv g26862 u26861.length c26863], iv v26866, slv (some b27188) ((List.replicate 24 false).length) 24] (by kernel_rfl) (L106 N _ b27188 p0_0 Ap0_1 cp0_1 lp0_1 (g26862.map fun b => ⟨b, 0, none⟩) c26863 u26861 v26866 ((List.replicate 24 false).length) 24 cl27189 (List.replicate 24 false) (hI.lend [1] (by decide) rfl rfl) (hI.apartL0 [1] rfl rfl hCp0_1) hMp0_1 hKp0_1 (hI.apartRowL [1] rfl rfl (i := 5) (by decide) rfl r26865) (len_le rfl r26865.big) (len_le rfl r26865.cap) r27190 _ hy27182) ?_)
            rintro v w ⟨cl27195, hv, hN, r27196⟩
            subst hv
            have hI := hI.backsL [1] [0, 2, 3, 4, 5] (by decide) rfl rfl rfl hN; clear hN
            have hq : (List.replicate 24 false).length = y27181.length := r27196.n_eq eBool_len (by decide)
            rw [hq] at r27196; clear hq
            refine ⟨_, hI, subk (fun _ h => h.pickL [2, 3, 4, 5] (by decide) rfl) ?_⟩
            intro hsub
            refine alp 5 (.tuple #[.agg #[slv g26862 u26861.length c26863], .bool false]) hsub rfl (by kernel_rfl) (fun _ => (by kernel_rfl)) ?_
            refine alp 6 (.agg #[slv g26862 u26861.length c26863]) hsub rfl (by kernel_rfl) (fun _ => (by kernel_rfl)) ?_
            refine alp 7 (.bool false) hsub rfl (by kernel_rfl) (fun _ => (by kernel_rfl)) ?_
            refine any_heavy [9] (by kernel_rfl) rfl (each1 ?_)
            intro w hI
            refine ol_c rfl (s_store hI 1 1 [slv g26862 u26861.length c26863] Try.sizeOf97 rfl rfl rfl rfl rfl (Nat.le_of_ble_eq_true rfl) ?_)
            intro w hI
            refine ⟨_, hI, subk (fun _ h => h.pickL [2, 3, 4, 5] (by decide) rfl) ?_⟩
            intro hsub
            refine alp 10 (.bool false) hsub rfl (by kernel_rfl) (fun _ => (by kernel_rfl)) ?_
            refine any_end (by kernel_rfl) (fun w hI => ?_)
            exact .inl ⟨rfl, .inl ⟨b27194, ⟨rfl, rfl, rfl, rfl, rfl, rfl, rfl, trivial⟩, hI.pickL [2, 3, 4, 5, 1] (by decide) rfl, hF⟩⟩
          ·intro w hI
           refine ol_c rfl (s_allocI hI [.slice none 0 0] Try.zeroValue97 rfl ?_)
           intro b27197 w hI
           refine ⟨_, hI, subk (fun _ h => h.pickL [1, 2, 3, 4] (by decide) rfl) ?_⟩
           intro hsub
           refine any_heavy [3] (by kernel_rfl) rfl (each1 ?_)
           intro w hI
           refine ol_c rfl (s_makeRowN hI (enc := eBool) eBool_len (by decide) (false) Try.underlying114 (z := .bool false) (k := 1) (bytes := 1) (by kernel_rfl) rfl 24 rfl rfl (by omega) (by decide) ?_)
           intro b27198 cl27199 w hI r27200
           refine ⟨_, hI, subk (fun _ h => h.pickL [2, 3, 4, 5] (by decide) rfl) ?_⟩
           intro hsub
           refine any_heavy [4] (by kernel_rfl) rfl (each1 ?_)
           intro w hI
           refine ol_c rfl (s_call 106 [.agg #[iv p0_0, .slice Ap0_1 lp0_1.length cp0_1], .agg #[slv g26862 u26861.length c26863], iv v26866, slv (some b27198) ((List.replicate 24 false).length) 24] (by kernel_rfl) (L106 N _ b27198 p0_0 Ap0_1 cp0_1 lp0_1 (g26862.map fun b => ⟨b, 0, none⟩) c26863 u26861 v26866 ((List.replicate 24 false).length) 24 cl27199 (List.replicate 24 false) (hI.lend [0] (by decide) rfl rfl) (hI.apartL0 [0] rfl rfl hCp0_1) hMp0_1 hKp0_1 (hI.apartRowL [0] rfl rfl (i := 5) (by decide) rfl r26865) (len_le rfl r26865.big) (len_le rfl r26865.cap) r27200 _ hy27182) ?_)
           rintro v w ⟨cl27201, hv, hN, r27202⟩
           subst hv
           have hI := hI.backsL [0] [1, 2, 3, 4, 5] (by decide) rfl rfl rfl hN; clear hN
           have hq : (List.replicate 24 false).length = y27181.length := r27202.n_eq eBool_len (by decide)
           rw [hq] at r27202; clear hq
           refine ⟨_, hI, subk (fun _ h => h.pickL [2, 3, 4, 5] (by decide) rfl) ?_⟩
           intro hsub
           refine alp 5 (.tuple #[.agg #[slv g26862 u26861.length c26863], .bool false]) hsub rfl (by kernel_rfl) (fun _ => (by kernel_rfl)) ?_
           refine alp 6 (.agg #[slv g26862 u26861.length c26863]) hsub rfl (by kernel_rfl) (fun _ => (by kernel_rfl)) ?_
           refine alp 7 (.bool false) hsub rfl (by kernel_rfl) (fun _ => (by kernel_rfl)) ?_
           refine any_heavy [9] (by kernel_rfl) rfl (each1 ?_)
           intro w hI
           refine ol_c rfl (s_store hI 1 1 [slv g26862 u26861.length c26863] Try.sizeOf97 rfl rfl rfl rfl rfl (Nat.le_of_ble_eq_true rfl) ?_)
           intro w hI
           refine ⟨_, hI, subk (fun _ h => h.pickL [2, 3, 4, 5] (by decide) rfl) ?_⟩
           intro hsub
           refine alp 10 (.bool false) hsub rfl (by kernel_rfl) (fun _ => (by kernel_rfl)) ?_
           refine any_end (by kernel_rfl) (fun w hI => ?_)
           exact .inl ⟨rfl, .inl ⟨b27197, ⟨rfl, rfl, rfl, rfl, rfl, rfl, rfl, trivial⟩, hI.pickL [2, 3, 4, 5, 1] (by decide) rfl, hF⟩⟩
         ·
          refine wp_drawn2 hI [0, 1, 2, 3] (by decide) rfl (by kernel_rfl) (by kernel_rfl) ?_
          intro hsub
          refine al_light 0 (.agg #[iv p0_0, .slice Ap0_1 lp0_1.length cp0_1]) hsub rfl (by kernel_rfl) (fun w hI => s_loadK hI 0 2 [iv p0_0, .slice Ap0_1 lp0_1.length cp0_1] Try.isAgg24 Try.sizeOf24 rfl rfl rfl rfl ⟨rfl, Below.refl _ _⟩) ?_
          refine al_light 1 (.agg #[slv g26862 u26861.length c26863]) hsub rfl (by kernel_rfl) (fun w hI => s_loadK hI 2 1 [slv g26862 u26861.length c26863] Try.isAgg97 Try.sizeOf97 rfl rfl rfl rfl ⟨rfl, Below.refl _ _⟩) ?_
          refine alp 2 (iv v26866) hsub rfl (by kernel_rfl) (fun _ => (by kernel_rfl)) ?_
          refine any_heavy [3, 8] (by kernel_rfl) rfl (each2 ?_ ?_)
          ·intro w hI
           refine ol_c rfl (s_makeRowN hI (enc := eBool) eBool_len (by decide) (false) Try.underlying114 (z := .bool false) (k := 1) (bytes := 1) (by kernel_rfl) rfl 24 rfl rfl (by omega) (by decide) ?_)
           intro b27210 cl27211 w hI r27212
           refine ⟨_, hI, subk (fun _ h => h.pickL [1, 2, 3, 4] (by decide) rfl) ?_⟩
           intro hsub
           refine any_heavy [4, 8] (by kernel_rfl) rfl (each2 ?_ ?_)
           ·intro w hI
            refine ol_c rfl (s_call 106 [.agg #[iv p0_0, .slice Ap0_1 lp0_1.length cp0_1], .agg #[slv g26862 u26861.length c26863], iv v26866, slv (some b27210) ((List.replicate 24 false).length) 24] (by kernel_rfl) (L106 N _ b27210 p0_0 Ap0_1 cp0_1 lp0_1 (g26862.map fun b => ⟨b, 0, none⟩) c26863 u26861 v26866 ((List.replicate 24 false).length) 24 cl27211 (List.replicate 24 false) (hI.lend [0] (by decide) rfl rfl) (hI.apartL0 [0] rfl rfl hCp0_1) hMp0_1 hKp0_1 (hI.apartRowL [0] rfl rfl (i := 4) (by decide) rfl r26865) (len_le rfl r26865.big) (len_le rfl r26865.cap) r27212 _ hy27184) ?_)
            rintro v w ⟨g27214, c27215, cl27216, cl27213, hv, hN, r27218, r27217⟩
            subst hv
            have hI := hI.backsL [0] [1, 2, 3, 4] (by decide) rfl rfl rfl hN; clear hN
            have hq : (List.replicate 24 false).length = y27183.2.length := r27217.n_eq eBool_len (by decide)
            rw [hq] at r27217; clear hq
            refine ⟨_, hI, subk (fun _ h => h.pickL [2, 3, 4, 5] (by decide) rfl) ?_⟩
            intro hsub
            refine alp 5 (.tuple #[.agg #[slv g27214 y27183.1.length c27215], .bool true]) hsub rfl (by kernel_rfl) (fun _ => (by kernel_rfl)) ?_
            refine alp 6 (.agg #[slv g27214 y27183.1.length c27215]) hsub rfl (by kernel_rfl) (fun _ => (by kernel_rfl)) ?_
            refine alp 7 (.bool true) hsub rfl (by kernel_rfl) (fun _ => (by kernel_rfl)) ?_
            refine any_heavy [8] (by kernel_rfl) rfl (each1 ?_)
            intro w hI
            refine ol_c rfl (s_allocI hI [.slice none 0 0] Try.zeroValue97 rfl ?_)
            intro b27219 w hI
            refine ⟨_, hI, subk (fun _ h => h.pickL [3, 4, 5, 6] (by decide) rfl) ?_⟩
            intro hsub
            refine any_heavy [9] (by kernel_rfl) rfl (each1 ?_)
            intro w hI
            refine ol_c rfl (s_store hI 0 1 [slv g27214 y27183.1.length c27215] Try.sizeOf97 rfl rfl rfl rfl rfl (Nat.le_of_ble_eq_true rfl) ?_)
            intro w hI
            refine ⟨_, hI, subk (fun _ h => h.pickL [3, 4, 5, 6] (by decide) rfl) ?_⟩
            intro hsub
            refine alp 10 (.bool true) hsub rfl (by kernel_rfl) (fun _ => (by kernel_rfl)) ?_
            refine any_end (by kernel_rfl) (fun w hI => ?_)
            exact .inl ⟨rfl, .inr ⟨b27219, g27214, c27215, cl27216, y27183.1, ⟨rfl, rfl, rfl, rfl, rfl, rfl, rfl, trivial⟩, hI.pickL [3, 4, 5, 6, 0, 1] (by decide) rfl, (r27218.to rfl rfl), hF⟩⟩
           ·intro w hI
            refine ol_c rfl (s_allocI hI [.slice none 0 0] Try.zeroValue97 rfl ?_)
            intro b27220 w hI
            refine ⟨_, hI, subk (fun _ h => h.pickL [2, 3, 4, 5] (by decide) rfl) ?_⟩
            intro hsub
            refine any_heavy [4] (by kernel_rfl) rfl (each1 ?_)
            intro w hI
            refine ol_c rfl (s_call 106 [.agg #[iv p0_0, .slice Ap0_1 lp0_1.length cp0_1], .agg #[slv g26862 u26861.length c26863], iv v26866, slv (some b27210) ((List.replicate 24 false).length) 24] (by kernel_rfl) (L106 N _ b27210 p0_0 Ap0_1 cp0_1 lp0_1 (g26862.map fun b => ⟨b, 0, none⟩) c26863 u26861 v26866 ((List.replicate 24 false).length) 24 cl27211 (List.replicate 24 false) (hI.lend [1] (by decide) rfl rfl) (hI.apartL0 [1] rfl rfl hCp0_1) hMp0_1 hKp0_1 (hI.apartRowL [1] rfl rfl (i := 5) (by decide) rfl r26865) (len_le rfl r26865.big) (len_le rfl r26865.cap) r27212 _ hy27184) ?_)
            rintro v w ⟨g27222, c27223, cl27224, cl27221, hv, hN, r27226, r27225⟩
            subst hv
            have hI := hI.backsL [1] [0, 2, 3, 4, 5] (by decide) rfl rfl rfl hN; clear hN
            have hq : (List.replicate 24 false).length = y27183.2.length := r27225.n_eq eBool_len (by decide)
            rw [hq] at r27225; clear hq
            refine ⟨_, hI, subk (fun _ h => h.pickL [3, 4, 5, 6] (by decide) rfl) ?_⟩
            intro hsub
            refine alp 5 (.tuple #[.agg #[slv g27222 y27183.1.length c27223], .bool true]) hsub rfl (by kernel_rfl) (fun _ => (by kernel_rfl)) ?_
            refine alp 6 (.agg #[slv g27222 y27183.1.length c27223]) hsub rfl (by kernel_rfl) (fun _ => (by kernel_rfl)) ?_
            refine alp 7 (.bool true) hsub rfl (by kernel_rfl) (fun _ => (by kernel_rfl)) ?_
            refine any_heavy [9] (by kernel_rfl) rfl (each1 ?_)
            intro w hI
            refine ol_c rfl (s_store hI 2 1 [slv g27222 y27183.1.length c27223] Try.sizeOf97 rfl rfl rfl rfl rfl (Nat.le_of_ble_eq_true rfl) ?_)
            intro w hI
            refine ⟨_, hI, subk (fun _ h => h.pickL [3, 4, 5, 6] (by decide) rfl) ?_⟩
            intro hsub
            refine alp 10 (.bool true) hsub rfl (by kernel_rfl) (fun _ => (by kernel_rfl)) ?_
            refine any_end (by kernel_rfl) (fun w hI => ?_)
            exact .inl ⟨rfl, .inr ⟨b27220, g27222, c27223, cl27224, y27183.1, ⟨rfl, rfl, rfl, rfl, rfl, rfl, rfl, trivial⟩, hI.pickL [3, 4, 5, 6, 2, 0] (by decide) rfl, (r27226.to rfl rfl), hF⟩⟩
          ·intro w hI
           refine ol_c rfl (s_allocI hI [.slice none 0 0] Try.zeroValue97 rfl ?_)
           intro b27227 w hI
           refine ⟨_, hI, subk (fun _ h => h.pickL [1, 2, 3, 4] (by decide) rfl) ?_⟩
           intro hsub
           refine any_heavy [3] (by kernel_rfl) rfl (each1 ?_)
           intro w hI
           refine ol_c rfl (s_makeRowN hI (enc := eBool) eBool_len (by decide) (false) Try.underlying114 (z := .bool false) (k := 1) (bytes := 1) (by kernel_rfl) rfl 24 rfl rfl (by omega) (by decide) ?_)
           intro b27228 cl27229 w hI r27230
           refine ⟨_, hI, subk (fun _ h => h.pickL [2, 3, 4, 5] (by decide) rfl) ?_⟩
           intro hsub
           refine any_heavy [4] (by kernel_rfl) rfl (each1 ?_)
           intro w hI
           refine ol_c rfl (s_call 106 [.agg #[iv p0_0, .slice Ap0_1 lp0_1.length cp0_1], .agg #[slv g26862 u26861.length c26863], iv v26866, slv (some b27228) ((List.replicate 24 false).length) 24] (by kernel_rfl) (L106 N _ b27228 p0_0 Ap0_1 cp0_1 lp0_1 (g26862.map fun b => ⟨b, 0, none⟩) c26863 u26861 v26866 ((List.replicate 24 false).length) 24 cl27229 (List.replicate 24 false) (hI.lend [0] (by decide) rfl rfl) (hI.apartL0 [0] rfl rfl hCp0_1) hMp0_1 hKp0_1 (hI.apartRowL [0] rfl rfl (i := 5) (by decide) rfl r26865) (len_le rfl r26865.big) (len_le rfl r26865.cap) r27230 _ hy27184) ?_)
           rintro v w ⟨g27232, c27233, cl27234, cl27231, hv, hN, r27236, r27235⟩
           subst hv
           have hI := hI.backsL [0] [1, 2, 3, 4, 5] (by decide) rfl rfl rfl hN; clear hN
           have hq : (List.replicate 24 false).length = y27183.2.length := r27235.n_eq eBool_len (by decide)
           rw [hq] at r27235; clear hq
           refine ⟨_, hI, subk (fun _ h => h.pickL [3, 4, 5, 6] (by decide) rfl) ?_⟩
           intro hsub
           refine alp 5 (.tuple #[.agg #[slv g27232 y27183.1.length c27233], .bool true]) hsub rfl (by kernel_rfl) (fun _ => (by kernel_rfl)) ?_
           refine alp 6 (.agg #[slv g27232 y27183.1.length c27233]) hsub rfl (by kernel_rfl) (fun _ => (by kernel_rfl)) ?_
           refine alp 7 (.bool true) hsub rfl (by kernel_rfl) (fun _ => (by kernel_rfl)) ?_
           refine any_heavy [9] (by kernel_rfl) rfl (each1 ?_)
           intro w hI
           refine ol_c rfl (s_store hI 2 1 [slv g27232 y27183.1.length c27233] Try.sizeOf97 rfl rfl rfl rfl rfl (Nat.le_of_ble_eq_true rfl) ?_)
           intro w hI
           refine ⟨_, hI, subk (fun _ h => h.pickL [3, 4, 5, 6] (by decide) rfl) ?_⟩
           intro hsub
           refine alp 10 (.bool true) hsub rfl (by kernel_rfl) (fun _ => (by kernel_rfl)) ?_
           refine any_end (by kernel_rfl) (fun w hI => ?_)
           exact .inl ⟨rfl, .inr ⟨b27227, g27232, c27233, cl27234, y27183.1, ⟨rfl, rfl, rfl, rfl, rfl, rfl, rfl, trivial⟩, hI.pickL [3, 4, 5, 6, 2, 0] (by decide) rfl, (r27236.to rfl rfl), hF⟩⟩
        ·rintro ρ w (hJ | hJ)
         ·
          obtain ⟨b27168, hag, hI, hF⟩ := hJ
          obtain ⟨ρ, rfl⟩ := hag.form; clear hag
          unfold F83j6 at hF
          refine wp_seq (rgn (by kernel_rfl) (pu (.bool false) (by kernel_rfl) (seq_nil (wp_condF rfl (wp_skip ?_)))))
          exact .inl ⟨rfl, ⟨some b27107, c26858, cl26859, g26862, c26863, cl26864, u26856, u26861, ⟨rfl, rfl, rfl, rfl, rfl, trivial⟩, hI.pickL [0, 1, 2, 3] (by decide) rfl, (r26860.to rfl rfl), (r26865.to rfl rfl), hF⟩⟩
         ·
          obtain ⟨b27169, g27171, c27172, cl27173, u27170, hag, hI, r27174, hF⟩ := hJ
          obtain ⟨ρ, rfl⟩ := hag.form; clear hag
          unfold F83j7 at hF
          refine wp_seq (rgn (by kernel_rfl) (pu (.bool true) (by kernel_rfl) (seq_nil (wp_condT rfl (wp_seq (rgn (by kernel_rfl) (seq_c (s_loadK hI 4 1 [slv g27171 u27170.length c27172] Try.isAgg97 Try.sizeOf97 rfl rfl rfl rfl ?_))))))))
          refine seq_c (s_store hI 2 1 [slv g27171 u27170.length c27172] Try.sizeOf97 rfl rfl rfl rfl rfl (Nat.le_of_ble_eq_true rfl) ?_)
          intro w hI
          refine seq_nil (rgn (by kernel_rfl) (pu (slv (some b27107) u26856.length c26858) (by kernel_rfl) (pu (iv v26866) (by kernel_rfl) ?_)))
          have he27175 := r26860.atS eInt_len (by decide) hx27106
          refine seq_c (s_indexR (v26866).toNat Try.underlying49 Try.sizeOf3 rfl rfl (Int.toNat_of_nonneg h2444).symm (lt_n hx27106 rfl) ?_)
          refine seq_c (s_loadR1 hI 1 (iv x27105) Try.isAgg3 rfl rfl (he27175 0 _ rfl) ?_)
          refine ckE hF (fun h2448 hF => ?_)
          refine seq_c (s_add rfl rfl h2448 ?_)
          refine seq_c (s_indexR (v26866).toNat Try.underlying49 Try.sizeOf3 rfl rfl (Int.toNat_of_nonneg h2444).symm (lt_n hx27106 rfl) ?_)
          have := lt_n hx27106 rfl
          refine seq_c (s_store hI 1 1 [iv (x27105 + 1)] Try.sizeOf3 rfl rfl rfl rfl rfl (r26860.room (by omega)) ?_)
          intro w hI
          have r27176 := r26860.put eInt_len (by decide) (v26866).toNat (x27105 + 1) (by omega)
          obtain ⟨cl27177, hcl⟩ : ∃ z, z = putCells cl26859 ((v26866).toNat * 1) (eInt (x27105 + 1)) := ⟨_, rfl⟩
          rw [← hcl] at r27176
          have hI : Inv [] w0 w [(some b13619, blk [iv p0_0, .slice Ap0_1 lp0_1.length cp0_1] 24), (some b27107, blk cl27177 3), (some b13639, blk [slv g27171 u27170.length c27172] 97), (g26862, blk cl26864 3), (some b27169, blk [slv g27171 u27170.length c27172] 97), (g27171, blk cl27173 3)] := by rw [hcl]; exact hI
          clear hcl
          refine seq_nil ?_
          exact .inl ⟨rfl, ⟨some b27107, c26858, cl27177, g27171, c27172, cl27173, (u26856).set (v26866).toNat (x27105 + 1), u27170, ⟨rfl, (slv_n (set_len rfl)), rfl, rfl, rfl, trivial⟩, hI.pickL [0, 1, 2, 5] (by decide) rfl, (r27176.to rfl (set_len rfl)), (r27174.to rfl rfl), hF⟩⟩
       ·
        refine seq_on (by kernel_rfl) (s_neq rfl rfl (fun _ => ?_) (fun h => absurd (a := x27105 = (v24962 - 1)) h h2447))
        refine pu (.bool true) (by kernel_rfl) (seq_nil ?_)
        exact .inl ⟨rfl, ⟨some b27107, c26858, cl26859, ⟨rfl, rfl, rfl, rfl, rfl, rfl, trivial⟩, hI.pickL [0, 1, 2, 3] (by decide) rfl, (r26860.to rfl rfl), hF⟩⟩
     ·intro ρ w hJ
      obtain ⟨g27094, c27095, cl27096, hag, hI, r27097, hF⟩ := hJ
      obtain ⟨ρ, rfl⟩ := hag.form; clear hag
      unfold F83j5 at hF
      refine wp_condT rfl (wp_exit ?_)
      exact .inl ⟨rfl, ⟨g27094, c27095, cl27096, g26862, c26863, cl26864, u26856, u26861, ⟨rfl, rfl, rfl, rfl, rfl, trivial⟩, hI.pickL [0, 1, 2, 3] (by decide) rfl, (r27097.to rfl rfl), (r26865.to rfl rfl), hF⟩⟩
    ·intro ρ w hJ
     obtain ⟨g27048, c27049, cl27050, g27053, c27054, cl27055, u27047, u27052, hag, hI, r27051, r27056, hF⟩ := hJ
     obtain ⟨ρ, rfl⟩ := hag.form; clear hag
     unfold F83j4 at hF
     refine rgn (by kernel_rfl) (pu (iv v26866) (by kernel_rfl) (ckE hF (fun h2431 hF => ?_)))
     refine seq_c (s_add rfl rfl h2431 ?_)
     refine pu (iv (v26866 + 1)) (by kernel_rfl) (seq_nil ?_)
     exact ⟨rfl, m3, Nat.lt_succ_self _, ⟨g27048, c27049, cl27050, g27053, c27054, cl27055, u27047, u27052, v26866 + 1, m3, ⟨rfl, rfl, rfl, rfl, rfl, trivial⟩, hI.pickL [0, 1, 2, 3] (by decide) rfl, (r27051.to rfl rfl), (r27056.to rfl rfl), hF, rfl⟩⟩
   ·
    refine seq_c (s_lss rfl rfl (fun h => absurd (a := v26866 < (lp0_1.length : Int)) h h2413) (fun _ => ?_))
    refine seq_nil (wp_condF rfl (wp_exit ?_))
    exact .inl ⟨rfl, ⟨g26857, c26858, cl26859, g26862, c26863, cl26864, u26856, u26861, ⟨rfl, rfl, rfl, rfl, trivial⟩, hI.pickL [0, 1, 2, 3] (by decide) rfl, (r26860.to rfl rfl), (r26865.to rfl rfl), hF⟩⟩
  ·intro ρ w hJ
   obtain ⟨g26096, c26097, cl26098, g26101, c26102, cl26103, u26095, u26100, hag, hI, r26099, r26104, hF⟩ := hJ
   obtain ⟨ρ, rfl⟩ := hag.form; clear hag
   unfold F83j2 at hF
   refine rgn (by kernel_rfl) (pu (iv v24962) (by kernel_rfl) (ckE hF (fun h2340 hF => ?_)))
   refine seq_c (s_add rfl rfl h2340 ?_)
   refine pu (iv (v24962 + 1)) (by kernel_rfl) (seq_nil ?_)
   exact ⟨rfl, m1, Nat.lt_succ_self _, ⟨g26096, c26097, cl26098, g26101, c26102, cl26103, u26095, u26100, v24962 + 1, m1, ⟨rfl, rfl, rfl, rfl, trivial⟩, hI.pickL [0, 1, 2, 3] (by decide) rfl, (r26099.to rfl rfl), (r26104.to rfl rfl), hF, rfl⟩⟩
 ·
  refine seq_c (s_leq rfl rfl (fun h => absurd (a := v24962 ≤ 24) h h2231) (fun _ => ?_))
  refine seq_nil (wp_condF rfl (wp_exit ?_))
  refine wp_seq (rgn (by kernel_rfl) (pu (slv g24953 u24952.length c24954) (by kernel_rfl) (pu (slv g24953 u24952.length c24954) (by kernel_rfl) (seq_nil (wp_ret ?_)))))
  replace hF := Option.some.inj hF; subst hF
  exact ⟨slv g24953 u24952.length c24954, Ret.r1 rfl rfl, ⟨g24953, c24954, cl24955, rfl, hI.pickL [1] (by decide) rfl, r24956.to rfl rfl⟩⟩


theorem L54 (w0 : World) (p0_0 : Int) (Ap0_1 : Option Addr) (cp0_1 : Nat) (lp0_1 : List Cm) (p1 : Int) (p2 : Int) (hCp0_1 : Cells w0 Ap0_1 (flat eCm lp0_1)) (hMp0_1 : lp0_1.length ≤ 9223372036854775807) (hKp0_1 : lp0_1.length ≤ cp0_1) (N : Nat) (r : (Int × Int)) (hF : F54 N p0_0 lp0_1 p1 p2 = some r) : Does Try.prog 54 [.agg #[.int .i64 p0_0, .slice Ap0_1 lp0_1.length cp0_1], .int .i64 p1, .int .i64 p2] w0 fun v w => v = .tuple #[.int .i64 r.1, .int .i64 r.2] ∧ Below w0.heap.size w0 w := by
 refine calls_of (n := 114) Try.func54 rfl Try.ntmps54 rfl ?_
 have hI := Inv.start w0
 unfold F54 at hF
 refine wp_seq (rgn (by kernel_rfl) (seq_c (s_boxI hI [iv p0_0, .slice Ap0_1 lp0_1.length cp0_1] rfl ?_)))
 intro b650 w hI
 refine pu (iv 0) (by kernel_rfl) (pu (iv 0) (by kernel_rfl) (seq_nil (wp_seq (wp_seq (rgn (by kernel_rfl) (seq_c (s_loadK hI 0 2 [iv p0_0, .slice Ap0_1 lp0_1.length cp0_1] Try.isAgg24 Try.sizeOf24 rfl rfl rfl rfl ?_)))))))
 refine bindE hF (fun y657 hy658 hF => ?_)
 refine seq_c (s_callv hI 24 [.agg #[iv p0_0, .slice Ap0_1 lp0_1.length cp0_1]] (iv y657) (by kernel_rfl) (L24 _ p0_0 Ap0_1 cp0_1 lp0_1 (hCp0_1.inv0 hI) hMp0_1 hKp0_1 N _ hy658) ?_)
 intro w hI
 refine ifE hF (fun h222 hF => ?_) (fun h222 hF => ?_)
 ·
  refine seq_c (s_neq rfl rfl (fun h => absurd (a := y657 = 0) h222 h) (fun _ => ?_))
  refine seq_nil (wp_condF rfl (wp_skip (wp_seq (rgn (by kernel_rfl) (seq_c (s_loadK hI 0 2 [iv p0_0, .slice Ap0_1 lp0_1.length cp0_1] Try.isAgg24 Try.sizeOf24 rfl rfl rfl rfl ?_))))))
  refine pu (iv p1) (by kernel_rfl) (bindE hF (fun y661 hy662 hF => ?_))
  refine seq_c (s_callv hI 65 [.agg #[iv p0_0, .slice Ap0_1 lp0_1.length cp0_1], iv p1] (iv y661) (by kernel_rfl) (L65 _ p0_0 Ap0_1 cp0_1 lp0_1 p1 (hCp0_1.inv0 hI) hMp0_1 hKp0_1 N _ hy662) ?_)
  intro w hI
  refine pu (iv y661) (by kernel_rfl) (seq_nil (wp_seq (wp_seq (rgn (by kernel_rfl) (pu (iv y661) (by kernel_rfl) (ifE hF (fun h226 hF => ?_) (fun h226 hF => ?_)))))))
  ·
   refine seq_c (s_lss rfl rfl (fun _ => ?_) (fun h => absurd (a := y661 < 0) h226 h))
   refine seq_nil (wp_condT rfl (wp_seq (rgn (by kernel_rfl) (pu (iv 0) (by kernel_rfl) (pu (iv 57) (by kernel_rfl) (seq_nil (wp_ret ?_)))))))
   replace hF := Option.some.inj hF; subst hF
   exact ⟨.tuple #[iv 0, iv 57], Ret.r2 rfl rfl rfl, ⟨rfl, hI.below⟩⟩
  ·
   refine seq_c (s_lss rfl rfl (fun h => absurd (a := y661 < 0) h h226) (fun _ => ?_))
   refine seq_nil (wp_condF rfl (wp_skip (wp_seq (wp_seq (rgn (by kernel_rfl) (pu (iv p2) (by kernel_rfl) (pu (.pointer (some ⟨b650, 0, none⟩)) (by kernel_rfl) (seq_c (s_load1 hI 0 (iv p0_0) Try.isAgg3 rfl rfl rfl ?_)))))))))
   refine ckE hF (fun h233 hF => ?_)
   refine seq_c (s_sub rfl rfl h233 ?_)
   refine bindE hF (fun y669 hy670 hF => ?_)
   refine ifE hF (fun h234 hF => ?_) (fun h234 hF => ?_)
   ·
    refine seq_c (s_callv hI 71 [iv p2, iv 0, iv (p0_0 - 1)] (.bool true) (by kernel_rfl) (Does.mono (L71 _ p2 0 (p0_0 - 1) _ hy670) (fun v' w' h => ⟨h.1.trans (congrArg Value.bool h234), h.2⟩)) ?_)
    intro w hI
    refine pu (.bool false) (by kernel_rfl) (seq_nil (wp_condF rfl (wp_skip (wp_seq (rgn (by kernel_rfl) (seq_c (s_loadK hI 0 2 [iv p0_0, .slice Ap0_1 lp0_1.length cp0_1] Try.isAgg24 Try.sizeOf24 rfl rfl rfl rfl ?_)))))))
    refine bindE hF (fun y677 hy678 hF => ?_)
    refine seq_c (s_call 83 [.agg #[iv p0_0, .slice Ap0_1 lp0_1.length cp0_1]] (by kernel_rfl) (L83 _ p0_0 Ap0_1 cp0_1 lp0_1 (hCp0_1.inv0 hI) hMp0_1 hKp0_1 N _ hy678) ?_)
    rintro v w ⟨g679, c680, cl681, rfl, hN, r682⟩
    have hI := hI.join hN; clear hN
    refine pu (slv g679 y677.length c680) (by kernel_rfl) (seq_nil (wp_seq (rgn (by kernel_rfl) (pu (.bool false) (by kernel_rfl) (seq_nil (wp_cutO (fun ρ w => ∃ (g725 : Option Nat) (c726 : Nat) (cl727 : List Value) (v729 : Bool), Agree ρ [(2, iv p2), (3, .pointer (some ⟨b650, 0, none⟩)), (8, iv y661), (9, slv g725 y677.length c726), (10, .bool v729)] ∧ Inv [] w0 w [(some b650, blk [iv p0_0, .slice Ap0_1 lp0_1.length cp0_1] 24), (g725, blk cl727 3)] ∧ (Row 1 g725 (y677.length) c726 cl727 (flat eInt y677)) ∧ F54j1 p0_0 lp0_1 p2 N y661 y677 v729 = some r) ?_ ?_))))))
    ·
     refine wp_cutO (fun ρ w => ∃ (g1263 : Option Nat) (c1264 : Nat) (cl1265 : List Value), Agree ρ [(2, iv p2), (3, .pointer (some ⟨b650, 0, none⟩)), (8, iv y661), (9, slv g1263 y677.length c1264), (10, .bool false), (43, .bool false)] ∧ Inv [] w0 w [(some b650, blk [iv p0_0, .slice Ap0_1 lp0_1.length cp0_1] 24), (g1263, blk cl1265 3)] ∧ (Row 1 g1263 (y677.length) c1264 cl1265 (flat eInt y677)) ∧ F54j7 p0_0 lp0_1 p2 N y661 y677 = some r) ?_ ?_
     ·
      refine rgn (by kernel_rfl) (seq_c (s_loadK hI 1 2 [iv p0_0, .slice Ap0_1 lp0_1.length cp0_1] Try.isAgg24 Try.sizeOf24 rfl rfl rfl rfl ?_))
      refine pu (iv y661) (by kernel_rfl) (pu (iv p2) (by kernel_rfl) (bindE hF (fun y1267 hy1268 hF => ?_)))
      refine ifE hF (fun h431 hF => ?_) (fun h431 hF => ?_)
      ·
       refine seq_c (s_callv hI 94 [.agg #[iv p0_0, .slice Ap0_1 lp0_1.length cp0_1], iv y661, iv p2] (.bool true) (by kernel_rfl) (Does.mono (L94 _ p0_0 Ap0_1 cp0_1 lp0_1 y661 p2 (hCp0_1.inv0 hI) hMp0_1 hKp0_1 _ hy1268) (fun v' w' h => ⟨h.1.trans (congrArg Value.bool h431), h.2⟩)) ?_)
       intro w hI
       refine pu (.bool true) (by kernel_rfl) (puo (slv g679 y677.length c680) ⟨(by kernel_rfl), (by kernel_rfl)⟩ (puo (iv y661) ⟨(by kernel_rfl), (by kernel_rfl)⟩ (gdE hF (fun h432 hF => ?_))))
       refine bindE hF (fun x1269 hx1270 hF => ?_)
       obtain ⟨b1271, rfl, he1272⟩ := r682.at_ eInt_len (by decide) hx1270
       refine seq_on (by kernel_rfl) (s_indexR (y661).toNat Try.underlying49 Try.sizeOf3 rfl rfl (Int.toNat_of_nonneg h432).symm (lt_n hx1270 rfl) ?_)
       refine seq_on (by kernel_rfl) (s_loadR1 hI 0 (iv x1269) Try.isAgg3 rfl rfl (he1272 0 _ rfl) ?_)
       refine ifE hF (fun h433 hF => ?_) (fun h433 hF => ?_)
       ·
        refine seq_on (by kernel_rfl) (s_gtr rfl rfl (fun _ => ?_) (fun h => absurd (a := 0 < x1269) h433 h))
        refine pu (.bool true) (by kernel_rfl) (seq_nil (.inr ?_))
        refine wp_condT rfl (wp_seq (rgn (by kernel_rfl) (seq_c (s_new hI [] 3 (fun b => slv (some b) 0 0) (by kernel_rfl) ?_))))
        intro b1278 w hI
        refine pu (slv (some b1271) y677.length c680) (by kernel_rfl) (gdE hF (fun h435 hF => ?_))
        refine seq_c (s_appN hI Try.underlying49 (z := iv 0) (k := 1) (bytes := 8) (by kernel_rfl) rfl rfl 0 rfl rfl (Row.zero_ 1 b1278) (flat eInt y677) rfl (flat_len eInt_len _) (hI.rowCells 1 rfl r682) (flat_cell eInt_cell _) (by omega) (by omega) (n2 := y677.length) (app_len0 rfl) ?_)
        intro g1279 c1280 cl1281 w hI r1282
        have r1282 : Row 1 g1279 y677.length c1280 cl1281 (flat eInt y677) := r1282
        refine pu (slv g1279 y677.length c1280) (by kernel_rfl) (seq_nil (wp_seq (rgn (by kernel_rfl) (pu (slv g1279 y677.length c1280) (by kernel_rfl) (pu (iv y661) (by kernel_rfl) ?_)))))
        obtain ⟨b1283, rfl, he1284⟩ := r1282.at_ eInt_len (by decide) hx1270
        refine seq_c (s_indexR (y661).toNat Try.underlying49 Try.sizeOf3 rfl rfl (Int.toNat_of_nonneg h432).symm (lt_n hx1270 rfl) ?_)
        refine seq_c (s_loadR1 hI 0 (iv x1269) Try.isAgg3 rfl rfl (he1284 0 _ rfl) ?_)
        refine ckE hF (fun h436 hF => ?_)
        refine seq_c (s_sub rfl rfl h436 ?_)
        refine seq_c (s_indexR (y661).toNat Try.underlying49 Try.sizeOf3 rfl rfl (Int.toNat_of_nonneg h432).symm (lt_n hx1270 rfl) ?_)
        have := lt_n hx1270 rfl
        refine seq_c (s_store hI 0 1 [iv (x1269 - 1)] Try.sizeOf3 rfl rfl rfl rfl rfl (r1282.room (by omega)) ?_)
        intro w hI
        have r1285 := r1282.put eInt_len (by decide) (y661).toNat (x1269 - 1) (by omega)
        obtain ⟨cl1286, hcl⟩ : ∃ z, z = putCells cl1281 ((y661).toNat * 1) (eInt (x1269 - 1)) := ⟨_, rfl⟩
        rw [← hcl] at r1285
        have hI : Inv [] w0 w [(some b1283, blk cl1286 3), (some b1271, blk cl681 3), (some b650, blk [iv p0_0, .slice Ap0_1 lp0_1.length cp0_1] 24)] := by rw [hcl]; exact hI
        clear hcl
        refine seq_nil (rgn (by kernel_rfl) (seq_c (s_loadK hI 2 2 [iv p0_0, .slice Ap0_1 lp0_1.length cp0_1] Try.isAgg24 Try.sizeOf24 rfl rfl rfl rfl ?_)))
        refine pu (iv p2) (by kernel_rfl) (bindE hF (fun y1287 hy1288 hF => ?_))
        refine seq_c (s_call 95 [.agg #[iv p0_0, .slice Ap0_1 lp0_1.length cp0_1], iv p2] (by kernel_rfl) (L95 _ p0_0 Ap0_1 cp0_1 lp0_1 p2 (hCp0_1.inv0 hI) hMp0_1 hKp0_1 N _ hy1288) ?_)
        rintro v w ⟨g1289, c1290, cl1291, rfl, hN, r1292⟩
        have hI := hI.join hN; clear hN
        refine pu (slv (some b1283) y677.length c1280) (by kernel_rfl) (bindE hF (fun y1293 hy1294 hF => ?_))
        refine seq_c (s_call 81 [.agg #[iv y1287.1, slv g1289 y1287.2.length c1290], slv (some b1283) y677.length c1280] (by kernel_rfl) (Does.cast (L81 _ y1287.1 (g1289.map fun b => ⟨b, 0, none⟩) c1290 y1287.2 ((some b1283).map fun b => ⟨b, 0, none⟩) c1280 ((y677).set (y661).toNat (x1269 - 1)) (hI.rowCells 0 rfl r1292) (len_le rfl r1292.big) (len_le rfl r1292.cap) (hI.rowCells 1 rfl r1285) (len_le (set_len rfl) r1285.big) (len_le (set_len rfl) r1285.cap) N _ hy1294) (by first | (simp only [List.length_set, sortI_len] <;> rfl) | rfl)) ?_)
        rintro v w ⟨g1295, c1296, cl1297, rfl, hN, r1298⟩
        have hI := hI.join hN; clear hN
        refine pu (.tuple #[.agg #[slv g1295 y1293.1.length c1296], .bool y1293.2]) (by kernel_rfl) (pu (.agg #[slv g1295 y1293.1.length c1296]) (by kernel_rfl) (pu (.bool y1293.2) (by kernel_rfl) (pu (.bool y1293.2) (by kernel_rfl) (seq_nil ?_))))
        exact .inl ⟨rfl, ⟨some b1271, c680, cl681, y1293.2, ⟨rfl, rfl, rfl, rfl, rfl, trivial⟩, hI.pickL [4, 3] (by decide) rfl, (r682.to rfl rfl), hF⟩⟩
       ·
        refine seq_on (by kernel_rfl) (s_gtr rfl rfl (fun h => absurd (a := 0 < x1269) h h433) (fun _ => ?_))
        refine pu (.bool false) (by kernel_rfl) (seq_nil ?_)
        exact .inl ⟨rfl, ⟨some b1271, c680, cl681, ⟨rfl, rfl, rfl, rfl, rfl, rfl, trivial⟩, hI.pickL [1, 0] (by decide) rfl, (r682.to rfl rfl), hF⟩⟩
      ·
       refine seq_c (s_callv hI 94 [.agg #[iv p0_0, .slice Ap0_1 lp0_1.length cp0_1], iv y661, iv p2] (.bool false) (by kernel_rfl) (Does.mono (L94 _ p0_0 Ap0_1 cp0_1 lp0_1 y661 p2 (hCp0_1.inv0 hI) hMp0_1 hKp0_1 _ hy1268) (fun v' w' h => ⟨h.1.trans (congrArg Value.bool (Bool.eq_false_iff.2 h431)), h.2⟩)) ?_)
       intro w hI
       refine pu (.bool false) (by kernel_rfl) (of_ (by kernel_rfl) (of_ (by kernel_rfl) (of_ (by kernel_rfl) (of_ (by kernel_rfl) (of_ (by kernel_rfl) (pu (.bool false) (by kernel_rfl) (seq_nil ?_)))))))
       exact .inl ⟨rfl, ⟨g679, c680, cl681, ⟨rfl, rfl, rfl, rfl, rfl, rfl, trivial⟩, hI.pickL [1, 0] (by decide) rfl, (r682.to rfl rfl), hF⟩⟩
     ·intro ρ w hJ
      obtain ⟨g1263, c1264, cl1265, hag, hI, r1266, hF⟩ := hJ
      obtain ⟨ρ, rfl⟩ := hag.form; clear hag
      unfold F54j7 at hF
      refine wp_condF rfl (wp_skip ?_)
      exact .inl ⟨rfl, ⟨g1263, c1264, cl1265, false, ⟨rfl, rfl, rfl, rfl, rfl, trivial⟩, hI.pickL [0, 1] (by decide) rfl, (r1266.to rfl rfl), hF⟩⟩
    ·intro ρ w hJ
     obtain ⟨g725, c726, cl727, v729, hag, hI, r728, hF⟩ := hJ
     obtain ⟨ρ, rfl⟩ := hag.form; clear hag
     unfold F54j1 at hF
     refine wp_seq (wp_seq ?_)
     have hG := hF; rcases Bool.eq_false_or_eq_true v729 with rfl | rfl
     ·
      have hF := hG; clear hG
      refine ifE hF (fun _ hF => ?_) (fun h => absurd rfl h)
      refine rgn (by kernel_rfl) (pu (.bool true) (by kernel_rfl) (pu (.bool false) (by kernel_rfl) (seq_nil (wp_condF rfl (wp_skip (wp_seq (rgn (by kernel_rfl) (seq_c (s_loadK hI 0 2 [iv p0_0, .slice Ap0_1 lp0_1.length cp0_1] Try.isAgg24 Try.sizeOf24 rfl rfl rfl rfl ?_)))))))))
      refine pu (iv p2) (by kernel_rfl) (bindE hF (fun y737 hy738 hF => ?_))
      refine seq_c (s_call 95 [.agg #[iv p0_0, .slice Ap0_1 lp0_1.length cp0_1], iv p2] (by kernel_rfl) (L95 _ p0_0 Ap0_1 cp0_1 lp0_1 p2 (hCp0_1.inv0 hI) hMp0_1 hKp0_1 N _ hy738) ?_)
      rintro v w ⟨g739, c740, cl741, rfl, hN, r742⟩
      have hI := hI.join hN; clear hN
      refine seq_c (s_allocI hI [iv 0, .slice none 0 0] Try.zeroValue24 rfl ?_)
      intro b743 w hI
      refine seq_c (s_store hI 0 2 [iv y737.1, slv g739 y737.2.length c740] Try.sizeOf24 rfl rfl rfl rfl rfl (Nat.le_of_ble_eq_true rfl) ?_)
      intro w hI
      refine seq_nil (wp_seq (rgn (by kernel_rfl) (seq_c (s_loadK hI 0 2 [iv y737.1, slv g739 y737.2.length c740] Try.isAgg24 Try.sizeOf24 rfl rfl rfl rfl ?_))))
      refine pu (slv g725 y677.length c726) (by kernel_rfl) (bindE hF (fun y751 hy752 hF => ?_))
      refine seq_c (s_call 81 [.agg #[iv y737.1, slv g739 y737.2.length c740], slv g725 y677.length c726] (by kernel_rfl) (L81 _ y737.1 (g739.map fun b => ⟨b, 0, none⟩) c740 y737.2 (g725.map fun b => ⟨b, 0, none⟩) c726 y677 (hI.rowCells 1 rfl r742) (len_le rfl r742.big) (len_le rfl r742.cap) (hI.rowCells 3 rfl r728) (len_le rfl r728.big) (len_le rfl r728.cap) N _ hy752) ?_)
      rintro v w ⟨g753, c754, cl755, rfl, hN, r756⟩
      have hI := hI.join hN; clear hN
      refine pu (.tuple #[.agg #[slv g753 y751.1.length c754], .bool y751.2]) (by kernel_rfl) (pu (.agg #[slv g753 y751.1.length c754]) (by kernel_rfl) (pu (.bool y751.2) (by kernel_rfl) (seq_c (s_allocI hI [.slice none 0 0] Try.zeroValue97 rfl ?_))))
      intro b757 w hI
      refine seq_c (s_store hI 0 1 [slv g753 y751.1.length c754] Try.sizeOf97 rfl rfl rfl rfl rfl (Nat.le_of_ble_eq_true rfl) ?_)
      intro w hI
      refine pu (.bool y751.2) (by kernel_rfl) (seq_nil (wp_cutO (fun ρ w => ∃ (v1007 : Bool), Agree ρ [(14, .bool v1007)] ∧ Inv [] w0 w [] ∧ F54j2 v1007 = some r) ?_ ?_))
      ·
       refine wp_seq (rgn (by kernel_rfl) (pu (iv 0) (by kernel_rfl) (seq_nil (wp_block ?_))))
       refine wp_loop (fun m ρ w => ∃ (g1172 : Option Nat) (c1173 : Nat) (cl1174 : List Value) (v1176 : Bool) (v1177 : Int) (mm : Nat), Agree ρ [(2, iv p2), (3, .pointer (some ⟨b650, 0, none⟩)), (8, iv y661), (9, slv g1172 y677.length c1173), (12, .pointer (some ⟨b743, 0, none⟩)), (14, .bool v1176), (15, iv v1177)] ∧ Inv [] w0 w [(some b650, blk [iv p0_0, .slice Ap0_1 lp0_1.length cp0_1] 24), (g1172, blk cl1174 3), (some b743, blk [iv y737.1, slv g739 y737.2.length c740] 24), (g739, blk cl741 26)] ∧ (Row 1 g1172 (y677.length) c1173 cl1174 (flat eInt y677)) ∧ F54l3 p0_0 lp0_1 p2 N y661 y677 y737 mm v1176 v1177 = some r ∧ mm = m) (m := N) ⟨g725, c726, cl727, y751.2, 0, N, ⟨rfl, rfl, rfl, rfl, rfl, rfl, rfl, trivial⟩, hI.pickL [4, 5, 2, 3] (by decide) rfl, (r728.to rfl rfl), hF, rfl⟩ ?_
       rintro m ρ w ⟨g1172, c1173, cl1174, v1176, v1177, mm, hag, hI, r1175, hF, hm⟩
       subst hm; obtain ⟨ρ, rfl⟩ := hag.form; clear hag
       obtain _ | m3 := mm
       ·cases (show (none : Option (Int × Int)) = some r from hF)
       replace hF : F54b3 p0_0 lp0_1 p2 N y661 y677 y737 (F54l3 p0_0 lp0_1 p2 N y661 y677 y737 m3) v1176 v1177 = some r := hF; unfold F54b3 at hF
       refine wp_seq (wp_cutO (fun ρ w => ∃ (v1179 : Bool), Agree ρ [(2, iv p2), (3, .pointer (some ⟨b650, 0, none⟩)), (8, iv y661), (9, slv g1172 y677.length c1173), (12, .pointer (some ⟨b743, 0, none⟩)), (14, .bool v1179), (15, iv v1177), (79, .bool false)] ∧ Inv [] w0 w [(some b650, blk [iv p0_0, .slice Ap0_1 lp0_1.length cp0_1] 24), (g1172, blk cl1174 3), (some b743, blk [iv y737.1, slv g739 y737.2.length c740] 24), (g739, blk cl741 26)] ∧ F54j4 v1179 = some r) ?_ ?_)
       ·
        have hG := hF; rcases Bool.eq_false_or_eq_true v1176 with rfl | rfl
        ·
         have hF := hG; clear hG
         refine ifE hF (fun _ hF => ?_) (fun h => absurd rfl h)
         refine rgn (by kernel_rfl) (pu (iv v1177) (by kernel_rfl) (pu (slv g1172 y677.length c1173) (by kernel_rfl) (pu (iv ((y677.length : Nat) : Int)) (by kernel_rfl) (ifE hF (fun h403 hF => ?_) (fun h403 hF => ?_)))))
         ·
          refine seq_c (s_lss rfl rfl (fun _ => ?_) (fun h => absurd (a := v1177 < (y677.length : Int)) h403 h))
          refine pu (.bool true) (by kernel_rfl) (puo (.bool true) ⟨(by kernel_rfl), (by kernel_rfl)⟩ (puo (.bool false) ⟨(by kernel_rfl), (by kernel_rfl)⟩ (pu (.bool false) (by kernel_rfl) (seq_nil ?_))))
          exact .inl ⟨rfl, ⟨true, ⟨rfl, rfl, rfl, rfl, rfl, rfl, rfl, rfl, trivial⟩, hI.pickL [0, 1, 2, 3] (by decide) rfl, hF⟩⟩
         ·
          refine seq_c (s_lss rfl rfl (fun h => absurd (a := v1177 < (y677.length : Int)) h h403) (fun _ => ?_))
          refine pu (.bool false) (by kernel_rfl) (of_ (by kernel_rfl) (of_ (by kernel_rfl) (pu (.bool false) (by kernel_rfl) (seq_nil ?_))))
          exact .inl ⟨rfl, ⟨true, ⟨rfl, rfl, rfl, rfl, rfl, rfl, rfl, rfl, trivial⟩, hI.pickL [0, 1, 2, 3] (by decide) rfl, hF⟩⟩
        ·
         have hF := hG; clear hG
         refine ifE hF (fun h => absurd h (by decide)) (fun _ hF => ?_)
         refine rgn (by kernel_rfl) (pu (iv v1177) (by kernel_rfl) (pu (slv g1172 y677.length c1173) (by kernel_rfl) (pu (iv ((y677.length : Nat) : Int)) (by kernel_rfl) (ifE hF (fun h404 hF => ?_) (fun h404 hF => ?_)))))
         ·
          refine seq_c (s_lss rfl rfl (fun _ => ?_) (fun h => absurd (a := v1177 < (y677.length : Int)) h404 h))
          refine pu (.bool true) (by kernel_rfl) (puo (.bool false) ⟨(by kernel_rfl), (by kernel_rfl)⟩ (puo (.bool true) ⟨(by kernel_rfl), (by kernel_rfl)⟩ (pu (.bool true) (by kernel_rfl) (seq_nil (.inr ?_)))))
          refine wp_condT rfl (wp_skip (wp_cutO (fun ρ w => ∃ (g1216 : Option Nat) (c1217 : Nat) (cl1218 : List Value) (v1220 : Bool), Agree ρ [(2, iv p2), (3, .pointer (some ⟨b650, 0, none⟩)), (8, iv y661), (9, slv g1216 y677.length c1217), (12, .pointer (some ⟨b743, 0, none⟩)), (14, .bool v1220), (15, iv v1177)] ∧ Inv [] w0 w [(some b650, blk [iv p0_0, .slice Ap0_1 lp0_1.length cp0_1] 24), (g1216, blk cl1218 3), (some b743, blk [iv y737.1, slv g739 y737.2.length c740] 24), (g739, blk cl741 26)] ∧ (Row 1 g1216 (y677.length) c1217 cl1218 (flat eInt y677)) ∧ F54j5 (F54l3 p0_0 lp0_1 p2 N y661 y677 y737 m3) v1177 v1220 = some r) ?_ ?_))
          ·
           refine wp_block ?_
           refine wp_cutO (fun ρ w => ∃ (g1227 : Option Nat) (c1228 : Nat) (cl1229 : List Value), Agree ρ [(2, iv p2), (3, .pointer (some ⟨b650, 0, none⟩)), (8, iv y661), (9, slv g1227 y677.length c1228), (12, .pointer (some ⟨b743, 0, none⟩)), (14, .bool false), (15, iv v1177), (97, .bool false)] ∧ Inv [] w0 w [(some b650, blk [iv p0_0, .slice Ap0_1 lp0_1.length cp0_1] 24), (g1227, blk cl1229 3), (some b743, blk [iv y737.1, slv g739 y737.2.length c740] 24), (g739, blk cl741 26)] ∧ (Row 1 g1227 (y677.length) c1228 cl1229 (flat eInt y677)) ∧ F54j6 (F54l3 p0_0 lp0_1 p2 N y661 y677 y737 m3) v1177 = some r) ?_ ?_
           ·
            refine rgn (by kernel_rfl) (pu (iv v1177) (by kernel_rfl) (pu (iv y661) (by kernel_rfl) (ifE hF (fun h421 hF => ?_) (fun h421 hF => ?_))))
            ·
             refine seq_c (s_neq rfl rfl (fun h => absurd (a := v1177 = y661) h421 h) (fun _ => ?_))
             refine pu (.bool false) (by kernel_rfl) (of_ (by kernel_rfl) (of_ (by kernel_rfl) (of_ (by kernel_rfl) (of_ (by kernel_rfl) (pu (.bool false) (by kernel_rfl) (pu (.bool false) (by kernel_rfl) (of_ (by kernel_rfl) (of_ (by kernel_rfl) (of_ (by kernel_rfl) ?_)))))))))
             refine of_ (by kernel_rfl) (of_ (by kernel_rfl) (pu (.bool false) (by kernel_rfl) (seq_nil ?_)))
             exact .inl ⟨rfl, ⟨g1172, c1173, cl1174, ⟨rfl, rfl, rfl, rfl, rfl, rfl, rfl, rfl, trivial⟩, hI.pickL [0, 1, 2, 3] (by decide) rfl, (r1175.to rfl rfl), hF⟩⟩
            ·
             refine seq_c (s_neq rfl rfl (fun _ => ?_) (fun h => absurd (a := v1177 = y661) h h421))
             refine pu (.bool true) (by kernel_rfl) (seq_on (by kernel_rfl) (s_loadK hI 0 2 [iv p0_0, .slice Ap0_1 lp0_1.length cp0_1] Try.isAgg24 Try.sizeOf24 rfl rfl rfl rfl ?_))
             refine puo (iv v1177) ⟨(by kernel_rfl), (by kernel_rfl)⟩ (puo (iv p2) ⟨(by kernel_rfl), (by kernel_rfl)⟩ (bindE hF (fun y1231 hy1232 hF => ?_)))
             refine ifE hF (fun h422 hF => ?_) (fun h422 hF => ?_)
             ·
              refine seq_on (by kernel_rfl) (s_callv hI 94 [.agg #[iv p0_0, .slice Ap0_1 lp0_1.length cp0_1], iv v1177, iv p2] (.bool true) (by kernel_rfl) (Does.mono (L94 _ p0_0 Ap0_1 cp0_1 lp0_1 v1177 p2 (hCp0_1.inv0 hI) hMp0_1 hKp0_1 _ hy1232) (fun v' w' h => ⟨h.1.trans (congrArg Value.bool h422), h.2⟩)) ?_)
              intro w hI
              refine pu (.bool true) (by kernel_rfl) (pu (.bool true) (by kernel_rfl) (puo (slv g1172 y677.length c1173) ⟨(by kernel_rfl), (by kernel_rfl)⟩ (puo (iv v1177) ⟨(by kernel_rfl), (by kernel_rfl)⟩ (gdE hF (fun h423 hF => ?_)))))
              refine bindE hF (fun x1233 hx1234 hF => ?_)
              obtain ⟨b1235, rfl, he1236⟩ := r1175.at_ eInt_len (by decide) hx1234
              refine seq_on (by kernel_rfl) (s_indexR (v1177).toNat Try.underlying49 Try.sizeOf3 rfl rfl (Int.toNat_of_nonneg h423).symm (lt_n hx1234 rfl) ?_)
              refine seq_on (by kernel_rfl) (s_loadR1 hI 1 (iv x1233) Try.isAgg3 rfl rfl (he1236 0 _ rfl) ?_)
              refine ifE hF (fun h424 hF => ?_) (fun h424 hF => ?_)
              ·
               refine seq_on (by kernel_rfl) (s_gtr rfl rfl (fun _ => ?_) (fun h => absurd (a := 0 < x1233) h424 h))
               refine pu (.bool true) (by kernel_rfl) (seq_nil (.inr ?_))
               refine wp_condT rfl (wp_seq (rgn (by kernel_rfl) (seq_c (s_new hI [] 3 (fun b => slv (some b) 0 0) (by kernel_rfl) ?_))))
               intro b1242 w hI
               refine pu (slv (some b1235) y677.length c1173) (by kernel_rfl) (gdE hF (fun h426 hF => ?_))
               refine seq_c (s_appN hI Try.underlying49 (z := iv 0) (k := 1) (bytes := 8) (by kernel_rfl) rfl rfl 0 rfl rfl (Row.zero_ 1 b1242) (flat eInt y677) rfl (flat_len eInt_len _) (hI.rowCells 2 rfl r1175) (flat_cell eInt_cell _) (by omega) (by omega) (n2 := y677.length) (app_len0 rfl) ?_)
               intro g1243 c1244 cl1245 w hI r1246
               have r1246 : Row 1 g1243 y677.length c1244 cl1245 (flat eInt y677) := r1246
               refine pu (slv g1243 y677.length c1244) (by kernel_rfl) (seq_nil (wp_seq (rgn (by kernel_rfl) (pu (slv g1243 y677.length c1244) (by kernel_rfl) (pu (iv v1177) (by kernel_rfl) ?_)))))
               obtain ⟨b1247, rfl, he1248⟩ := r1246.at_ eInt_len (by decide) hx1234
               refine seq_c (s_indexR (v1177).toNat Try.underlying49 Try.sizeOf3 rfl rfl (Int.toNat_of_nonneg h423).symm (lt_n hx1234 rfl) ?_)
               refine seq_c (s_loadR1 hI 0 (iv x1233) Try.isAgg3 rfl rfl (he1248 0 _ rfl) ?_)
               refine ckE hF (fun h427 hF => ?_)
               refine seq_c (s_sub rfl rfl h427 ?_)
               refine seq_c (s_indexR (v1177).toNat Try.underlying49 Try.sizeOf3 rfl rfl (Int.toNat_of_nonneg h423).symm (lt_n hx1234 rfl) ?_)
               have := lt_n hx1234 rfl
               refine seq_c (s_store hI 0 1 [iv (x1233 - 1)] Try.sizeOf3 rfl rfl rfl rfl rfl (r1246.room (by omega)) ?_)
               intro w hI
               have r1249 := r1246.put eInt_len (by decide) (v1177).toNat (x1233 - 1) (by omega)
               obtain ⟨cl1250, hcl⟩ : ∃ z, z = putCells cl1245 ((v1177).toNat * 1) (eInt (x1233 - 1)) := ⟨_, rfl⟩
               rw [← hcl] at r1249
               have hI : Inv [] w0 w [(some b1247, blk cl1250 3), (some b650, blk [iv p0_0, .slice Ap0_1 lp0_1.length cp0_1] 24), (some b1235, blk cl1174 3), (some b743, blk [iv y737.1, slv g739 y737.2.length c740] 24), (g739, blk cl741 26)] := by rw [hcl]; exact hI
               clear hcl
               refine seq_nil (rgn (by kernel_rfl) (seq_c (s_loadK hI 3 2 [iv y737.1, slv g739 y737.2.length c740] Try.isAgg24 Try.sizeOf24 rfl rfl rfl rfl ?_)))
               refine pu (slv (some b1247) y677.length c1244) (by kernel_rfl) (bindE hF (fun y1251 hy1252 hF => ?_))
               refine seq_c (s_call 81 [.agg #[iv y737.1, slv g739 y737.2.length c740], slv (some b1247) y677.length c1244] (by kernel_rfl) (Does.cast (L81 _ y737.1 (g739.map fun b => ⟨b, 0, none⟩) c740 y737.2 ((some b1247).map fun b => ⟨b, 0, none⟩) c1244 ((y677).set (v1177).toNat (x1233 - 1)) (hI.rowCells 4 rfl r742) (len_le rfl r742.big) (len_le rfl r742.cap) (hI.rowCells 0 rfl r1249) (len_le (set_len rfl) r1249.big) (len_le (set_len rfl) r1249.cap) N _ hy1252) (by first | (simp only [List.length_set, sortI_len] <;> rfl) | rfl)) ?_)
               rintro v w ⟨g1253, c1254, cl1255, rfl, hN, r1256⟩
               have hI := hI.join hN; clear hN
               refine pu (.tuple #[.agg #[slv g1253 y1251.1.length c1254], .bool y1251.2]) (by kernel_rfl) (pu (.agg #[slv g1253 y1251.1.length c1254]) (by kernel_rfl) (pu (.bool y1251.2) (by kernel_rfl) (pu (.bool y1251.2) (by kernel_rfl) (seq_nil ?_))))
               exact .inl ⟨rfl, ⟨some b1235, c1173, cl1174, y1251.2, ⟨rfl, rfl, rfl, rfl, rfl, rfl, rfl, trivial⟩, hI.pickL [2, 3, 4, 5] (by decide) rfl, (r1175.to rfl rfl), hF⟩⟩
              ·
               refine seq_on (by kernel_rfl) (s_gtr rfl rfl (fun h => absurd (a := 0 < x1233) h h424) (fun _ => ?_))
               refine pu (.bool false) (by kernel_rfl) (seq_nil ?_)
               exact .inl ⟨rfl, ⟨some b1235, c1173, cl1174, ⟨rfl, rfl, rfl, rfl, rfl, rfl, rfl, rfl, trivial⟩, hI.pickL [0, 1, 2, 3] (by decide) rfl, (r1175.to rfl rfl), hF⟩⟩
             ·
              refine seq_on (by kernel_rfl) (s_callv hI 94 [.agg #[iv p0_0, .slice Ap0_1 lp0_1.length cp0_1], iv v1177, iv p2] (.bool false) (by kernel_rfl) (Does.mono (L94 _ p0_0 Ap0_1 cp0_1 lp0_1 v1177 p2 (hCp0_1.inv0 hI) hMp0_1 hKp0_1 _ hy1232) (fun v' w' h => ⟨h.1.trans (congrArg Value.bool (Bool.eq_false_iff.2 h422)), h.2⟩)) ?_)
              intro w hI
              refine pu (.bool false) (by kernel_rfl) (pu (.bool false) (by kernel_rfl) (of_ (by kernel_rfl) (of_ (by kernel_rfl) (of_ (by kernel_rfl) (of_ (by kernel_rfl) (of_ (by kernel_rfl) (pu (.bool false) (by kernel_rfl) (seq_nil ?_))))))))
              exact .inl ⟨rfl, ⟨g1172, c1173, cl1174, ⟨rfl, rfl, rfl, rfl, rfl, rfl, rfl, rfl, trivial⟩, hI.pickL [0, 1, 2, 3] (by decide) rfl, (r1175.to rfl rfl), hF⟩⟩
           ·intro ρ w hJ
            obtain ⟨g1227, c1228, cl1229, hag, hI, r1230, hF⟩ := hJ
            obtain ⟨ρ, rfl⟩ := hag.form; clear hag
            unfold F54j6 at hF
            refine wp_condF rfl (wp_skip ?_)
            exact .inl ⟨rfl, ⟨g1227, c1228, cl1229, false, ⟨rfl, rfl, rfl, rfl, rfl, rfl, rfl, trivial⟩, hI.pickL [0, 1, 2, 3] (by decide) rfl, (r1230.to rfl rfl), hF⟩⟩
          ·intro ρ w hJ
           obtain ⟨g1216, c1217, cl1218, v1220, hag, hI, r1219, hF⟩ := hJ
           obtain ⟨ρ, rfl⟩ := hag.form; clear hag
           unfold F54j5 at hF
           refine rgn (by kernel_rfl) (pu (iv v1177) (by kernel_rfl) (ckE hF (fun h416 hF => ?_)))
           refine seq_c (s_add rfl rfl h416 ?_)
           refine pu (iv (v1177 + 1)) (by kernel_rfl) (seq_nil ?_)
           exact ⟨rfl, m3, Nat.lt_succ_self _, ⟨g1216, c1217, cl1218, v1220, v1177 + 1, m3, ⟨rfl, rfl, rfl, rfl, rfl, rfl, rfl, trivial⟩, hI.pickL [0, 1, 2, 3] (by decide) rfl, (r1219.to rfl rfl), hF, rfl⟩⟩
         ·
          refine seq_c (s_lss rfl rfl (fun h => absurd (a := v1177 < (y677.length : Int)) h h404) (fun _ => ?_))
          refine pu (.bool false) (by kernel_rfl) (of_ (by kernel_rfl) (of_ (by kernel_rfl) (pu (.bool false) (by kernel_rfl) (seq_nil ?_))))
          exact .inl ⟨rfl, ⟨false, ⟨rfl, rfl, rfl, rfl, rfl, rfl, rfl, rfl, trivial⟩, hI.pickL [0, 1, 2, 3] (by decide) rfl, hF⟩⟩
       ·intro ρ w hJ
        obtain ⟨v1179, hag, hI, hF⟩ := hJ
        obtain ⟨ρ, rfl⟩ := hag.form; clear hag
        unfold F54j4 at hF
        refine wp_condF rfl (wp_exit ?_)
        exact .inl ⟨rfl, ⟨v1179, ⟨rfl, trivial⟩, hI.pickL [] (by decide) rfl, hF⟩⟩
      ·intro ρ w hJ
       obtain ⟨v1007, hag, hI, hF⟩ := hJ
       obtain ⟨ρ, rfl⟩ := hag.form; clear hag
       unfold F54j2 at hF
       refine wp_seq (wp_seq ?_)
       have hG := hF; rcases Bool.eq_false_or_eq_true v1007 with rfl | rfl
       ·
        have hF := hG; clear hG
        refine ifE hF (fun _ hF => ?_) (fun h => absurd rfl h)
        refine rgn (by kernel_rfl) (pu (.bool true) (by kernel_rfl) (seq_nil (wp_condT rfl (wp_seq (rgn (by kernel_rfl) (pu (iv 2) (by kernel_rfl) (pu (iv 0) (by kernel_rfl) (seq_nil (wp_ret ?_)))))))))
        replace hF := Option.some.inj hF; subst hF
        exact ⟨.tuple #[iv 2, iv 0], Ret.r2 rfl rfl rfl, ⟨rfl, hI.below⟩⟩
       ·
        have hF := hG; clear hG
        refine ifE hF (fun h => absurd h (by decide)) (fun _ hF => ?_)
        refine rgn (by kernel_rfl) (pu (.bool false) (by kernel_rfl) (seq_nil (wp_condF rfl (wp_skip (wp_seq (rgn (by kernel_rfl) (pu (iv 1) (by kernel_rfl) (pu (iv 0) (by kernel_rfl) (seq_nil ?_)))))))))
        refine wp_ret ?_
        replace hF := Option.some.inj hF; subst hF
        exact ⟨.tuple #[iv 1, iv 0], Ret.r2 rfl rfl rfl, ⟨rfl, hI.below⟩⟩
     ·
      have hF := hG; clear hG
      refine ifE hF (fun h => absurd h (by decide)) (fun _ hF => ?_)
      refine rgn (by kernel_rfl) (pu (.bool false) (by kernel_rfl) (pu (.bool true) (by kernel_rfl) (seq_nil (wp_condT rfl (wp_seq (rgn (by kernel_rfl) (pu (iv 0) (by kernel_rfl) (pu (iv 0) (by kernel_rfl) (seq_nil ?_)))))))))
      refine wp_ret ?_
      replace hF := Option.some.inj hF; subst hF
      exact ⟨.tuple #[iv 0, iv 0], Ret.r2 rfl rfl rfl, ⟨rfl, hI.below⟩⟩
   ·
    refine seq_c (s_callv hI 71 [iv p2, iv 0, iv (p0_0 - 1)] (.bool false) (by kernel_rfl) (Does.mono (L71 _ p2 0 (p0_0 - 1) _ hy670) (fun v' w' h => ⟨h.1.trans (congrArg Value.bool (Bool.eq_false_iff.2 h234)), h.2⟩)) ?_)
    intro w hI
    refine pu (.bool true) (by kernel_rfl) (seq_nil (wp_condT rfl (wp_seq (rgn (by kernel_rfl) (pu (iv 0) (by kernel_rfl) (pu (iv 7) (by kernel_rfl) (seq_nil (wp_ret ?_))))))))
    replace hF := Option.some.inj hF; subst hF
    exact ⟨.tuple #[iv 0, iv 7], Ret.r2 rfl rfl rfl, ⟨rfl, hI.below⟩⟩
 ·
  refine seq_c (s_neq rfl rfl (fun _ => ?_) (fun h => absurd (a := y657 = 0) h h222))
  refine seq_nil (wp_condT rfl (wp_seq (rgn (by kernel_rfl) (pu (iv 0) (by kernel_rfl) (pu (iv 52) (by kernel_rfl) (seq_nil (wp_ret ?_)))))))
  replace hF := Option.some.inj hF; subst hF
  exact ⟨.tuple #[iv 0, iv 52], Ret.r2 rfl rfl rfl, ⟨rfl, hI.below⟩⟩


theorem L56 (w0 : World) (p0_0 : Int) (Ap0_1 : Option Addr) (cp0_1 : Nat) (lp0_1 : List Cm) (hCp0_1 : Cells w0 Ap0_1 (flat eCm lp0_1)) (hMp0_1 : lp0_1.length ≤ 9223372036854775807) (hKp0_1 : lp0_1.length ≤ cp0_1) (N : Nat) (r : (List Int × Int)) (hF : F56 N p0_0 lp0_1 = some r) : Does Try.prog 56 [.agg #[.int .i64 p0_0, .slice Ap0_1 lp0_1.length cp0_1]] w0 fun v w => ∃ (z0 : Option Nat) (z1 : Nat) (z2 : List Value), v = .tuple #[slv z0 r.1.length z1, .int .i64 r.2] ∧ Inv [] w0 w [(z0, blk z2 3)] ∧ Row 1 z0 r.1.length z1 z2 (flat eInt r.1) := by
 refine calls_of (n := 34) Try.func56 rfl Try.ntmps56 rfl ?_
 have hI := Inv.start w0
 unfold F56 at hF
 refine wp_seq (rgn (by kernel_rfl) (seq_c (s_boxI hI [iv p0_0, .slice Ap0_1 lp0_1.length cp0_1] rfl ?_)))
 intro b453 w hI
 refine pu (.slice none 0 0) (by kernel_rfl) (pu (iv 0) (by kernel_rfl) (seq_nil (wp_seq (wp_seq (rgn (by kernel_rfl) (seq_c (s_loadK hI 0 2 [iv p0_0, .slice Ap0_1 lp0_1.length cp0_1] Try.isAgg24 Try.sizeOf24 rfl rfl rfl rfl ?_)))))))
 refine bindE hF (fun y460 hy461 hF => ?_)
 refine seq_c (s_callv hI 24 [.agg #[iv p0_0, .slice Ap0_1 lp0_1.length cp0_1]] (iv y460) (by kernel_rfl) (L24 _ p0_0 Ap0_1 cp0_1 lp0_1 (hCp0_1.inv0 hI) hMp0_1 hKp0_1 N _ hy461) ?_)
 intro w hI
 refine ifE hF (fun h60 hF => ?_) (fun h60 hF => ?_)
 ·
  refine seq_c (s_neq rfl rfl (fun h => absurd (a := y460 = 0) h60 h) (fun _ => ?_))
  refine seq_nil (wp_condF rfl (wp_skip (wp_seq (rgn (by kernel_rfl) (seq_c (s_loadK hI 0 2 [iv p0_0, .slice Ap0_1 lp0_1.length cp0_1] Try.isAgg24 Try.sizeOf24 rfl rfl rfl rfl ?_))))))
  refine bindE hF (fun y468 hy469 hF => ?_)
  refine seq_c (s_call 83 [.agg #[iv p0_0, .slice Ap0_1 lp0_1.length cp0_1]] (by kernel_rfl) (L83 _ p0_0 Ap0_1 cp0_1 lp0_1 (hCp0_1.inv0 hI) hMp0_1 hKp0_1 N _ hy469) ?_)
  rintro v w ⟨g470, c471, cl472, rfl, hN, r473⟩
  have hI := hI.join hN; clear hN
  refine pu (slv g470 y468.length c471) (by kernel_rfl) (seq_nil (wp_seq (rgn (by kernel_rfl) (pu (.slice none 0 0) (by kernel_rfl) (seq_nil (wp_seq (wp_seq (rgn (by kernel_rfl) (pu (iv 0) (by kernel_rfl) ?_)))))))))
  refine seq_nil (wp_block ?_)
  have hI := hI.nilRow 3
  refine wp_loop (fun m ρ w => ∃ (g833 : Option Nat) (c834 : Nat) (cl835 : List Value) (out_832 : List Int) (h_837 : Int) (mm : Nat), Agree ρ [(1, .pointer (some ⟨b453, 0, none⟩)), (4, slv g470 y468.length c471), (5, slv g833 out_832.length c834), (6, iv h_837)] ∧ Inv [] w0 w [(some b453, blk [iv p0_0, .slice Ap0_1 lp0_1.length cp0_1] 24), (g470, blk cl472 3), (g833, blk cl835 3)] ∧ (Row 1 g833 (out_832.length) c834 cl835 (flat eInt out_832)) ∧ F56l1 p0_0 lp0_1 N y468 mm out_832 h_837 = some r ∧ mm = m) (m := N) ⟨none, 0, [], [], 0, N, ⟨rfl, rfl, rfl, rfl, trivial⟩, hI.pickL [2, 1, 0] (by decide) rfl, (Row.nil_ 1), hF, rfl⟩ ?_
  rintro m ρ w ⟨g833, c834, cl835, out_832, h_837, mm, hag, hI, r836, hF, hm⟩
  subst hm; obtain ⟨ρ, rfl⟩ := hag.form; clear hag
  obtain _ | m1 := mm
  ·cases (show (none : Option (List Int × Int)) = some r from hF)
  replace hF : F56b1 p0_0 lp0_1 N y468 (F56l1 p0_0 lp0_1 N y468 m1) out_832 h_837 = some r := hF; unfold F56b1 at hF
  refine wp_seq (wp_seq (rgn (by kernel_rfl) (pu (iv h_837) (by kernel_rfl) (pu (.pointer (some ⟨b453, 0, none⟩)) (by kernel_rfl) (seq_c (s_load1 hI 0 (iv p0_0) Try.isAgg3 rfl rfl rfl ?_))))))
  refine ifE hF (fun h107 hF => ?_) (fun h107 hF => ?_)
  ·
   refine seq_c (s_lss rfl rfl (fun _ => ?_) (fun h => absurd (a := h_837 < p0_0) h107 h))
   refine seq_nil (wp_condT rfl (wp_skip (wp_cutO (fun ρ w => ∃ (g870 : Option Nat) (c871 : Nat) (cl872 : List Value) (out_869 : List Int), Agree ρ [(1, .pointer (some ⟨b453, 0, none⟩)), (4, slv g470 y468.length c471), (5, slv g870 out_869.length c871), (6, iv h_837)] ∧ Inv [] w0 w [(some b453, blk [iv p0_0, .slice Ap0_1 lp0_1.length cp0_1] 24), (g470, blk cl472 3), (g870, blk cl872 3)] ∧ (Row 1 g870 (out_869.length) c871 cl872 (flat eInt out_869)) ∧ F56j2 (F56l1 p0_0 lp0_1 N y468 m1) h_837 out_869 = some r) ?_ ?_)))
   ·
    refine wp_block ?_
    refine wp_seq (rgn (by kernel_rfl) (seq_c (s_loadK hI 0 2 [iv p0_0, .slice Ap0_1 lp0_1.length cp0_1] Try.isAgg24 Try.sizeOf24 rfl rfl rfl rfl ?_)))
    refine pu (iv h_837) (by kernel_rfl) (bindE hF (fun y887 hy888 hF => ?_))
    refine seq_c (s_call 95 [.agg #[iv p0_0, .slice Ap0_1 lp0_1.length cp0_1], iv h_837] (by kernel_rfl) (L95 _ p0_0 Ap0_1 cp0_1 lp0_1 h_837 (hCp0_1.inv0 hI) hMp0_1 hKp0_1 N _ hy888) ?_)
    rintro v w ⟨g889, c890, cl891, rfl, hN, r892⟩
    have hI := hI.join hN; clear hN
    refine pu (slv g470 y468.length c471) (by kernel_rfl) (bindE hF (fun y893 hy894 hF => ?_))
    refine seq_c (s_call 81 [.agg #[iv y887.1, slv g889 y887.2.length c890], slv g470 y468.length c471] (by kernel_rfl) (L81 _ y887.1 (g889.map fun b => ⟨b, 0, none⟩) c890 y887.2 (g470.map fun b => ⟨b, 0, none⟩) c471 y468 (hI.rowCells 0 rfl r892) (len_le rfl r892.big) (len_le rfl r892.cap) (hI.rowCells 2 rfl r473) (len_le rfl r473.big) (len_le rfl r473.cap) N _ hy894) ?_)
    rintro v w ⟨g895, c896, cl897, rfl, hN, r898⟩
    have hI := hI.join hN; clear hN
    refine pu (.tuple #[.agg #[slv g895 y893.1.length c896], .bool y893.2]) (by kernel_rfl) (pu (.agg #[slv g895 y893.1.length c896]) (by kernel_rfl) (pu (.bool y893.2) (by kernel_rfl) (seq_c (s_allocI hI [.slice none 0 0] Try.zeroValue97 rfl ?_))))
    intro b899 w hI
    refine seq_c (s_store hI 0 1 [slv g895 y893.1.length c896] Try.sizeOf97 rfl rfl rfl rfl rfl (Nat.le_of_ble_eq_true rfl) ?_)
    intro w hI
    refine pu (.bool y893.2) (by kernel_rfl) (seq_nil (wp_seq (ifE hF (fun h111 hF => ?_) (fun h111 hF => ?_))))
    ·
     rw [h111]
     refine rgn (by kernel_rfl) (pu (.bool true) (by kernel_rfl) (seq_nil (wp_condT rfl (rgn (by kernel_rfl) (pu (slv g833 out_832.length c834) (by kernel_rfl) (pu (iv h_837) (by kernel_rfl) (seq_c (s_new hI [iv h_837] 3 (fun b => slv (some b) 1 1) (by kernel_rfl) ?_))))))))
     intro b900 w hI
     refine gdE hF (fun h112 hF => ?_)
     refine seq_c (s_appN hI Try.underlying49 (z := iv 0) (k := 1) (bytes := 8) (by kernel_rfl) rfl rfl 6 rfl rfl r836 [iv h_837] rfl rfl (hI.cells 0 (off := 0) rfl (fun j u h => by rw [Nat.zero_add]; exact h)) (by simp [Value.oneCell']) (by omega) (by omega) (n2 := (out_832 ++ [h_837]).length) (app_len rfl rfl) ?_)
     intro g901 c902 cl903 w hI r904
     have r904 : Row 1 g901 ((out_832 ++ [h_837]).length) c902 cl903 (flat eInt (out_832 ++ [h_837])) := r904.snoc _ rfl
     refine pu (slv g901 ((out_832 ++ [h_837]).length) c902) (by kernel_rfl) (seq_nil ?_)
     exact .inl ⟨rfl, ⟨g901, c902, cl903, out_832 ++ [h_837], ⟨rfl, rfl, rfl, rfl, trivial⟩, hI.pickL [4, 5, 6] (by decide) rfl, (r904.to rfl rfl), hF⟩⟩
    ·
     rw [(Bool.eq_false_iff.2 h111)]
     refine rgn (by kernel_rfl) (pu (.bool false) (by kernel_rfl) (seq_nil (wp_condF rfl (wp_skip ?_))))
     exact .inl ⟨rfl, ⟨g833, c834, cl835, out_832, ⟨rfl, rfl, rfl, rfl, trivial⟩, hI.pickL [3, 4, 5] (by decide) rfl, (r836.to rfl rfl), hF⟩⟩
   ·intro ρ w hJ
    obtain ⟨g870, c871, cl872, out_869, hag, hI, r873, hF⟩ := hJ
    obtain ⟨ρ, rfl⟩ := hag.form; clear hag
    unfold F56j2 at hF
    refine rgn (by kernel_rfl) (pu (iv h_837) (by kernel_rfl) (ckE hF (fun h110 hF => ?_)))
    refine seq_c (s_add rfl rfl h110 ?_)
    refine pu (iv (h_837 + 1)) (by kernel_rfl) (seq_nil ?_)
    exact ⟨rfl, m1, Nat.lt_succ_self _, ⟨g870, c871, cl872, out_869, h_837 + 1, m1, ⟨rfl, rfl, rfl, rfl, trivial⟩, hI.pickL [0, 1, 2] (by decide) rfl, (r873.to rfl rfl), hF, rfl⟩⟩
  ·
   refine seq_c (s_lss rfl rfl (fun h => absurd (a := h_837 < p0_0) h h107) (fun _ => ?_))
   refine seq_nil (wp_condF rfl (wp_exit ?_))
   refine wp_seq (rgn (by kernel_rfl) (pu (slv g833 out_832.length c834) (by kernel_rfl) (pu (slv g833 out_832.length c834) (by kernel_rfl) (pu (iv 0) (by kernel_rfl) (seq_nil (wp_ret ?_))))))
   replace hF := Option.some.inj hF; subst hF
   exact ⟨.tuple #[slv g833 out_832.length c834, iv 0], Ret.r2 rfl rfl rfl, ⟨g833, c834, cl835, rfl, hI.pickL [2] (by decide) rfl, r836.to rfl rfl⟩⟩
 ·
  refine seq_c (s_neq rfl rfl (fun _ => ?_) (fun h => absurd (a := y460 = 0) h h60))
  refine seq_nil (wp_condT rfl (wp_seq (rgn (by kernel_rfl) (pu (.slice none 0 0) (by kernel_rfl) (pu (iv 52) (by kernel_rfl) (seq_nil (wp_ret ?_)))))))
  have hI := hI.nilRow 3
  replace hF := Option.some.inj hF; subst hF
  exact ⟨.tuple #[.slice none 0 0, iv 52], Ret.r2 rfl rfl rfl, ⟨none, 0, [], rfl, hI.pickL [0] (by decide) rfl, Row.nil_ 1⟩⟩


theorem L58 (w0 : World) (p0_0 : Int) (Ap0_1 : Option Addr) (cp0_1 : Nat) (lp0_1 : List Cm) (p1 : Int) (hCp0_1 : Cells w0 Ap0_1 (flat eCm lp0_1)) (hMp0_1 : lp0_1.length ≤ 9223372036854775807) (hKp0_1 : lp0_1.length ≤ cp0_1) (N : Nat) (r : (List Int × Int)) (hF : F58 N p0_0 lp0_1 p1 = some r) : Does Try.prog 58 [.agg #[.int .i64 p0_0, .slice Ap0_1 lp0_1.length cp0_1], .int .i64 p1] w0 fun v w => ∃ (z0 : Option Nat) (z1 : Nat) (z2 : List Value), v = .tuple #[slv z0 r.1.length z1, .int .i64 r.2] ∧ Inv [] w0 w [(z0, blk z2 3)] ∧ Row 1 z0 r.1.length z1 z2 (flat eInt r.1) := by
 refine calls_of (n := 61) Try.func58 rfl Try.ntmps58 rfl ?_
 have hI := Inv.start w0
 unfold F58 at hF
 refine wp_seq (rgn (by kernel_rfl) (seq_c (s_boxI hI [iv p0_0, .slice Ap0_1 lp0_1.length cp0_1] rfl ?_)))
 intro b831 w hI
 refine pu (.slice none 0 0) (by kernel_rfl) (pu (iv 0) (by kernel_rfl) (seq_nil (wp_seq (wp_seq (rgn (by kernel_rfl) (seq_c (s_loadK hI 0 2 [iv p0_0, .slice Ap0_1 lp0_1.length cp0_1] Try.isAgg24 Try.sizeOf24 rfl rfl rfl rfl ?_)))))))
 refine bindE hF (fun y838 hy839 hF => ?_)
 refine seq_c (s_callv hI 24 [.agg #[iv p0_0, .slice Ap0_1 lp0_1.length cp0_1]] (iv y838) (by kernel_rfl) (L24 _ p0_0 Ap0_1 cp0_1 lp0_1 (hCp0_1.inv0 hI) hMp0_1 hKp0_1 N _ hy839) ?_)
 intro w hI
 refine ifE hF (fun h164 hF => ?_) (fun h164 hF => ?_)
 ·
  refine seq_c (s_neq rfl rfl (fun h => absurd (a := y838 = 0) h164 h) (fun _ => ?_))
  refine seq_nil (wp_condF rfl (wp_skip (wp_seq (wp_seq (rgn (by kernel_rfl) (seq_c (s_loadK hI 0 2 [iv p0_0, .slice Ap0_1 lp0_1.length cp0_1] Try.isAgg24 Try.sizeOf24 rfl rfl rfl rfl ?_)))))))
  refine pu (iv p1) (by kernel_rfl) (bindE hF (fun y846 hy847 hF => ?_))
  refine seq_c (s_callv hI 65 [.agg #[iv p0_0, .slice Ap0_1 lp0_1.length cp0_1], iv p1] (iv y846) (by kernel_rfl) (L65 _ p0_0 Ap0_1 cp0_1 lp0_1 p1 (hCp0_1.inv0 hI) hMp0_1 hKp0_1 N _ hy847) ?_)
  intro w hI
  refine ifE hF (fun h168 hF => ?_) (fun h168 hF => ?_)
  ·
   refine seq_c (s_lss rfl rfl (fun _ => ?_) (fun h => absurd (a := y846 < 0) h168 h))
   refine seq_nil (wp_condT rfl (wp_seq (rgn (by kernel_rfl) (pu (.slice none 0 0) (by kernel_rfl) (pu (iv 57) (by kernel_rfl) (seq_nil (wp_ret ?_)))))))
   have hI := hI.nilRow 3
   replace hF := Option.some.inj hF; subst hF
   exact ⟨.tuple #[.slice none 0 0, iv 57], Ret.r2 rfl rfl rfl, ⟨none, 0, [], rfl, hI.pickL [0] (by decide) rfl, Row.nil_ 1⟩⟩
  ·
   refine seq_c (s_lss rfl rfl (fun h => absurd (a := y846 < 0) h h168) (fun _ => ?_))
   refine seq_nil (wp_condF rfl (wp_skip (wp_seq (rgn (by kernel_rfl) (seq_c (s_loadK hI 0 2 [iv p0_0, .slice Ap0_1 lp0_1.length cp0_1] Try.isAgg24 Try.sizeOf24 rfl rfl rfl rfl ?_))))))
   refine pu (iv p1) (by kernel_rfl) (bindE hF (fun y855 hy856 hF => ?_))
   refine seq_c (s_call 68 [.agg #[iv p0_0, .slice Ap0_1 lp0_1.length cp0_1], iv p1] (by kernel_rfl) (L68 _ p0_0 Ap0_1 cp0_1 lp0_1 p1 (hCp0_1.inv0 hI) hMp0_1 hKp0_1 N _ hy856) ?_)
   rintro v w ⟨g857, c858, cl859, rfl, hN, r860⟩
   have hI := hI.join hN; clear hN
   refine seq_c (s_allocI hI [iv 0, .slice none 0 0] Try.zeroValue24 rfl ?_)
   intro b861 w hI
   refine seq_c (s_store hI 0 2 [iv y855.1, slv g857 y855.2.length c858] Try.sizeOf24 rfl rfl rfl rfl rfl (Nat.le_of_ble_eq_true rfl) ?_)
   intro w hI
   refine seq_nil (wp_seq (rgn (by kernel_rfl) (seq_c (s_loadK hI 2 2 [iv p0_0, .slice Ap0_1 lp0_1.length cp0_1] Try.isAgg24 Try.sizeOf24 rfl rfl rfl rfl ?_))))
   refine bindE hF (fun y868 hy869 hF => ?_)
   refine seq_c (s_call 83 [.agg #[iv p0_0, .slice Ap0_1 lp0_1.length cp0_1]] (by kernel_rfl) (L83 _ p0_0 Ap0_1 cp0_1 lp0_1 (hCp0_1.inv0 hI) hMp0_1 hKp0_1 N _ hy869) ?_)
   rintro v w ⟨g870, c871, cl872, rfl, hN, r873⟩
   have hI := hI.join hN; clear hN
   refine pu (slv g870 y868.length c871) (by kernel_rfl) (seq_nil (wp_seq (rgn (by kernel_rfl) (seq_c (s_loadK hI 1 2 [iv y855.1, slv g857 y855.2.length c858] Try.isAgg24 Try.sizeOf24 rfl rfl rfl rfl ?_)))))
   refine bindE hF (fun y880 hy881 hF => ?_)
   refine seq_c (s_call 83 [.agg #[iv y855.1, slv g857 y855.2.length c858]] (by kernel_rfl) (L83 _ y855.1 (g857.map fun b => ⟨b, 0, none⟩) c858 y855.2 (hI.rowCells 2 rfl r860) (len_le rfl r860.big) (len_le rfl r860.cap) N _ hy881) ?_)
   rintro v w ⟨g882, c883, cl884, rfl, hN, r885⟩
   have hI := hI.join hN; clear hN
   refine pu (slv g882 y880.length c883) (by kernel_rfl) (seq_nil (wp_seq (rgn (by kernel_rfl) (pu (.slice none 0 0) (by kernel_rfl) (seq_nil (wp_seq (wp_seq (rgn (by kernel_rfl) (pu (iv 1) (by kernel_rfl) ?_)))))))))
   refine seq_nil (wp_block ?_)
   have hI := hI.nilRow 3
   refine wp_loop (fun m ρ w => ∃ (g1528 : Option Nat) (c1529 : Nat) (cl1530 : List Value) (g1532 : Option Nat) (c1533 : Nat) (cl1534 : List Value) (g1537 : Option Nat) (c1538 : Nat) (cl1539 : List Value) (out_1536 : List Int) (f_1541 : Int) (mm : Nat), Agree ρ [(2, .pointer (some ⟨b831, 0, none⟩)), (6, .pointer (some ⟨b861, 0, none⟩)), (7, slv g1528 y868.length c1529), (8, slv g1532 y880.length c1533), (9, slv g1537 out_1536.length c1538), (10, iv f_1541)] ∧ Inv [] w0 w [(some b831, blk [iv p0_0, .slice Ap0_1 lp0_1.length cp0_1] 24), (some b861, blk [iv y855.1, slv g857 y855.2.length c858] 24), (g857, blk cl859 26), (g1528, blk cl1530 3), (g1532, blk cl1534 3), (g1537, blk cl1539 3)] ∧ (Row 1 g1528 (y868.length) c1529 cl1530 (flat eInt y868)) ∧ (Row 1 g1532 (y880.length) c1533 cl1534 (flat eInt y880)) ∧ (Row 1 g1537 (out_1536.length) c1538 cl1539 (flat eInt out_1536)) ∧ F58l1 p0_0 lp0_1 N y855 y868 y880 mm out_1536 f_1541 = some r ∧ mm = m) (m := N) ⟨g870, c871, cl872, g882, c883, cl884, none, 0, [], [], 1, N, ⟨rfl, rfl, rfl, rfl, rfl, rfl, trivial⟩, hI.pickL [5, 3, 4, 2, 1, 0] (by decide) rfl, (r873.to rfl rfl), (r885.to rfl rfl), (Row.nil_ 1), hF, rfl⟩ ?_
   rintro m ρ w ⟨g1528, c1529, cl1530, g1532, c1533, cl1534, g1537, c1538, cl1539, out_1536, f_1541, mm, hag, hI, r1531, r1535, r1540, hF, hm⟩
   subst hm; obtain ⟨ρ, rfl⟩ := hag.form; clear hag
   obtain _ | m1 := mm
   ·cases (show (none : Option (List Int × Int)) = some r from hF)
   replace hF : F58b1 p0_0 lp0_1 N y855 y868 y880 (F58l1 p0_0 lp0_1 N y855 y868 y880 m1) out_1536 f_1541 = some r := hF; unfold F58b1 at hF
   refine wp_seq (wp_seq (rgn (by kernel_rfl) (pu (iv f_1541) (by kernel_rfl) (ifE hF (fun h297 hF => ?_) (fun h297 hF => ?_)))))
   ·
    refine seq_c (s_leq rfl rfl (fun _ => ?_) (fun h => absurd (a := f_1541 ≤ 99) h297 h))
    refine seq_nil (wp_condT rfl (wp_skip (wp_cutO (fun ρ w => ∃ (g1595 : Option Nat) (c1596 : Nat) (cl1597 : List Value) (g1599 : Option Nat) (c1600 : Nat) (cl1601 : List Value) (g1604 : Option Nat) (c1605 : Nat) (cl1606 : List Value) (out_1603 : List Int), Agree ρ [(2, .pointer (some ⟨b831, 0, none⟩)), (6, .pointer (some ⟨b861, 0, none⟩)), (7, slv g1595 y868.length c1596), (8, slv g1599 y880.length c1600), (9, slv g1604 out_1603.length c1605), (10, iv f_1541)] ∧ Inv [] w0 w [(some b831, blk [iv p0_0, .slice Ap0_1 lp0_1.length cp0_1] 24), (some b861, blk [iv y855.1, slv g857 y855.2.length c858] 24), (g857, blk cl859 26), (g1595, blk cl1597 3), (g1599, blk cl1601 3), (g1604, blk cl1606 3)] ∧ (Row 1 g1595 (y868.length) c1596 cl1597 (flat eInt y868)) ∧ (Row 1 g1599 (y880.length) c1600 cl1601 (flat eInt y880)) ∧ (Row 1 g1604 (out_1603.length) c1605 cl1606 (flat eInt out_1603)) ∧ F58j2 (F58l1 p0_0 lp0_1 N y855 y868 y880 m1) f_1541 out_1603 = some r) ?_ ?_)))
    ·
     refine wp_block ?_
     refine wp_seq (rgn (by kernel_rfl) (seq_c (s_loadK hI 0 2 [iv p0_0, .slice Ap0_1 lp0_1.length cp0_1] Try.isAgg24 Try.sizeOf24 rfl rfl rfl rfl ?_)))
     refine pu (iv f_1541) (by kernel_rfl) (bindE hF (fun y1610 hy1611 hF => ?_))
     refine seq_c (s_callv hI 65 [.agg #[iv p0_0, .slice Ap0_1 lp0_1.length cp0_1], iv f_1541] (iv y1610) (by kernel_rfl) (L65 _ p0_0 Ap0_1 cp0_1 lp0_1 f_1541 (hCp0_1.inv0 hI) hMp0_1 hKp0_1 N _ hy1611) ?_)
     intro w hI
     refine pu (iv y1610) (by kernel_rfl) (seq_nil (wp_seq (rgn (by kernel_rfl) (seq_c (s_loadK hI 1 2 [iv y855.1, slv g857 y855.2.length c858] Try.isAgg24 Try.sizeOf24 rfl rfl rfl rfl ?_)))))
     refine pu (iv f_1541) (by kernel_rfl) (bindE hF (fun y1614 hy1615 hF => ?_))
     refine seq_c (s_callv hI 65 [.agg #[iv y855.1, slv g857 y855.2.length c858], iv f_1541] (iv y1614) (by kernel_rfl) (L65 _ y855.1 (g857.map fun b => ⟨b, 0, none⟩) c858 y855.2 f_1541 (hI.rowCells 2 rfl r860) (len_le rfl r860.big) (len_le rfl r860.cap) N _ hy1615) ?_)
     intro w hI
     refine pu (iv y1614) (by kernel_rfl) (seq_nil (wp_cutO (fun ρ w => ∃ (g1632 : Option Nat) (c1633 : Nat) (cl1634 : List Value) (g1636 : Option Nat) (c1637 : Nat) (cl1638 : List Value), Agree ρ [(2, .pointer (some ⟨b831, 0, none⟩)), (6, .pointer (some ⟨b861, 0, none⟩)), (7, slv g1632 y868.length c1633), (8, slv g1636 y880.length c1637), (9, slv g1537 out_1536.length c1538), (10, iv f_1541), (55, .bool false)] ∧ Inv [] w0 w [(some b831, blk [iv p0_0, .slice Ap0_1 lp0_1.length cp0_1] 24), (some b861, blk [iv y855.1, slv g857 y855.2.length c858] 24), (g857, blk cl859 26), (g1632, blk cl1634 3), (g1636, blk cl1638 3), (g1537, blk cl1539 3)] ∧ (Row 1 g1632 (y868.length) c1633 cl1634 (flat eInt y868)) ∧ (Row 1 g1636 (y880.length) c1637 cl1638 (flat eInt y880)) ∧ F58j3 (F58l1 p0_0 lp0_1 N y855 y868 y880 m1) out_1536 f_1541 = some r) ?_ ?_))
     ·
      refine ifE hF (fun h315 hF => ?_) (fun h315 hF => ?_)
      ·
       refine ifE hF (fun h316 hF => ?_) (fun h316 hF => ?_)
       ·
        refine gdE hF (fun h317 hF => ?_)
        refine bindE hF (fun x1640 hx1641 hF => ?_)
        refine gdE hF (fun h318 hF => ?_)
        refine bindE hF (fun x1644 hx1645 hF => ?_)
        refine ifE hF (fun h319 hF => ?_) (fun h319 hF => ?_)
        ·
         refine wp_drawn2 hI [0, 1, 2, 3, 4, 5] (by decide) rfl (by kernel_rfl) (by kernel_rfl) ?_
         intro hsub
         refine alp 0 (iv y1610) hsub rfl (by kernel_rfl) (fun _ => (by kernel_rfl)) ?_
         refine al_light 1 (.bool true) hsub rfl (by kernel_rfl) (fun w hI => s_geq rfl rfl (fun _ => ⟨rfl, Below.refl _ _⟩) (fun h => absurd (a := 0 ≤ y1610) h315 h)) ?_
         refine alp 2 (.bool true) hsub rfl (by kernel_rfl) (fun _ => (by kernel_rfl)) ?_
         refine al_on 3 (iv y1614) hsub rfl (by kernel_rfl) (by kernel_rfl) (fun w hI => s_pure (iv y1614) (by kernel_rfl) ⟨rfl, Below.refl _ _⟩) ?_
         refine al_on 4 (.bool true) hsub rfl (by kernel_rfl) (by kernel_rfl) (fun w hI => s_geq rfl rfl (fun _ => ⟨rfl, Below.refl _ _⟩) (fun h => absurd (a := 0 ≤ y1614) h316 h)) ?_
         refine alp 5 (.bool true) hsub rfl (by kernel_rfl) (fun _ => (by kernel_rfl)) ?_
         refine alp 6 (.bool true) hsub rfl (by kernel_rfl) (fun _ => (by kernel_rfl)) ?_
         refine al_on 7 (slv g1528 y868.length c1529) hsub rfl (by kernel_rfl) (by kernel_rfl) (fun w hI => s_pure (slv g1528 y868.length c1529) (by kernel_rfl) ⟨rfl, Below.refl _ _⟩) ?_
         refine al_on 8 (iv y1610) hsub rfl (by kernel_rfl) (by kernel_rfl) (fun w hI => s_pure (iv y1610) (by kernel_rfl) ⟨rfl, Below.refl _ _⟩) ?_
         refine al_on 9 (iv (if 0 > y1610 then 0 else y1610)) hsub rfl (by kernel_rfl) (by kernel_rfl) (fun w hI => s_pure (iv (if 0 > y1610 then 0 else y1610)) (by kernel_rfl) ⟨rfl, Below.refl _ _⟩) ?_
         obtain ⟨b1648, rfl, he1649⟩ := r1531.at_ eInt_len (by decide) hx1641
         refine al_on 10 (.pointer (some ⟨b1648, ((if 0 > y1610 then 0 else y1610).toNat) * 1, none⟩)) hsub rfl (by kernel_rfl) (by kernel_rfl) (fun w hI => s_indexR ((if 0 > y1610 then 0 else y1610).toNat) Try.underlying49 Try.sizeOf3 rfl rfl (Int.toNat_of_nonneg h317).symm (lt_n hx1641 rfl) ⟨rfl, Below.refl _ _⟩) ?_
         refine al_on 11 (iv x1640) hsub rfl (by kernel_rfl) (by kernel_rfl) (fun w hI => s_loadR1 hI 3 (iv x1640) Try.isAgg3 rfl rfl (he1649 0 _ rfl) ⟨rfl, Below.refl _ _⟩) ?_
         refine al_on 12 (slv g1532 y880.length c1533) hsub rfl (by kernel_rfl) (by kernel_rfl) (fun w hI => s_pure (slv g1532 y880.length c1533) (by kernel_rfl) ⟨rfl, Below.refl _ _⟩) ?_
         refine al_on 13 (iv y1614) hsub rfl (by kernel_rfl) (by kernel_rfl) (fun w hI => s_pure (iv y1614) (by kernel_rfl) ⟨rfl, Below.refl _ _⟩) ?_
         refine al_on 14 (iv (if 0 > y1614 then 0 else y1614)) hsub rfl (by kernel_rfl) (by kernel_rfl) (fun w hI => s_pure (iv (if 0 > y1614 then 0 else y1614)) (by kernel_rfl) ⟨rfl, Below.refl _ _⟩) ?_
         obtain ⟨b1650, rfl, he1651⟩ := r1535.at_ eInt_len (by decide) hx1645
         refine al_on 15 (.pointer (some ⟨b1650, ((if 0 > y1614 then 0 else y1614).toNat) * 1, none⟩)) hsub rfl (by kernel_rfl) (by kernel_rfl) (fun w hI => s_indexR ((if 0 > y1614 then 0 else y1614).toNat) Try.underlying49 Try.sizeOf3 rfl rfl (Int.toNat_of_nonneg h318).symm (lt_n hx1645 rfl) ⟨rfl, Below.refl _ _⟩) ?_
         refine al_on 16 (iv x1644) hsub rfl (by kernel_rfl) (by kernel_rfl) (fun w hI => s_loadR1 hI 4 (iv x1644) Try.isAgg3 rfl rfl (he1651 0 _ rfl) ⟨rfl, Below.refl _ _⟩) ?_
         refine al_on 17 (.bool false) hsub rfl (by kernel_rfl) (by kernel_rfl) (fun w hI => s_neq rfl rfl (fun h => absurd (a := x1640 = x1644) h319 h) (fun _ => ⟨rfl, Below.refl _ _⟩)) ?_
         refine alp 18 (.bool false) hsub rfl (by kernel_rfl) (fun _ => (by kernel_rfl)) ?_
         refine any_end (by kernel_rfl) (fun w hI => ?_)
         exact .inl ⟨rfl, ⟨some b1648, c1529, cl1530, some b1650, c1533, cl1534, ⟨rfl, rfl, rfl, rfl, rfl, rfl, rfl, trivial⟩, hI.pickL [0, 1, 2, 3, 4, 5] (by decide) rfl, (r1531.to rfl rfl), (r1535.to rfl rfl), hF⟩⟩
        ·
         refine wp_drawn2 hI [0, 1, 2, 3, 4, 5] (by decide) rfl (by kernel_rfl) (by kernel_rfl) ?_
         intro hsub
         refine alp 0 (iv y1610) hsub rfl (by kernel_rfl) (fun _ => (by kernel_rfl)) ?_
         refine al_light 1 (.bool true) hsub rfl (by kernel_rfl) (fun w hI => s_geq rfl rfl (fun _ => ⟨rfl, Below.refl _ _⟩) (fun h => absurd (a := 0 ≤ y1610) h315 h)) ?_
         refine alp 2 (.bool true) hsub rfl (by kernel_rfl) (fun _ => (by kernel_rfl)) ?_
         refine al_on 3 (iv y1614) hsub rfl (by kernel_rfl) (by kernel_rfl) (fun w hI => s_pure (iv y1614) (by kernel_rfl) ⟨rfl, Below.refl _ _⟩) ?_
         refine al_on 4 (.bool true) hsub rfl (by kernel_rfl) (by kernel_rfl) (fun w hI => s_geq rfl rfl (fun _ => ⟨rfl, Below.refl _ _⟩) (fun h => absurd (a := 0 ≤ y1614) h316 h)) ?_
         refine alp 5 (.bool true) hsub rfl (by kernel_rfl) (fun _ => (by kernel_rfl)) ?_
         refine alp 6 (.bool true) hsub rfl (by kernel_rfl) (fun _ => (by kernel_rfl)) ?_
         refine al_on 7 (slv g1528 y868.length c1529) hsub rfl (by kernel_rfl) (by kernel_rfl) (fun w hI => s_pure (slv g1528 y868.length c1529) (by kernel_rfl) ⟨rfl, Below.refl _ _⟩) ?_
         refine al_on 8 (iv y1610) hsub rfl (by kernel_rfl) (by kernel_rfl) (fun w hI => s_pure (iv y1610) (by kernel_rfl) ⟨rfl, Below.refl _ _⟩) ?_
         refine al_on 9 (iv (if 0 > y1610 then 0 else y1610)) hsub rfl (by kernel_rfl) (by kernel_rfl) (fun w hI => s_pure (iv (if 0 > y1610 then 0 else y1610)) (by kernel_rfl) ⟨rfl, Below.refl _ _⟩) ?_
         obtain ⟨b1652, rfl, he1653⟩ := r1531.at_ eInt_len (by decide) hx1641
         refine al_on 10 (.pointer (some ⟨b1652, ((if 0 > y1610 then 0 else y1610).toNat) * 1, none⟩)) hsub rfl (by kernel_rfl) (by kernel_rfl) (fun w hI => s_indexR ((if 0 > y1610 then 0 else y1610).toNat) Try.underlying49 Try.sizeOf3 rfl rfl (Int.toNat_of_nonneg h317).symm (lt_n hx1641 rfl) ⟨rfl, Below.refl _ _⟩) ?_
         refine al_on 11 (iv x1640) hsub rfl (by kernel_rfl) (by kernel_rfl) (fun w hI => s_loadR1 hI 3 (iv x1640) Try.isAgg3 rfl rfl (he1653 0 _ rfl) ⟨rfl, Below.refl _ _⟩) ?_
         refine al_on 12 (slv g1532 y880.length c1533) hsub rfl (by kernel_rfl) (by kernel_rfl) (fun w hI => s_pure (slv g1532 y880.length c1533) (by kernel_rfl) ⟨rfl, Below.refl _ _⟩) ?_
         refine al_on 13 (iv y1614) hsub rfl (by kernel_rfl) (by kernel_rfl) (fun w hI => s_pure (iv y1614) (by kernel_rfl) ⟨rfl, Below.refl _ _⟩) ?_
         refine al_on 14 (iv (if 0 > y1614 then 0 else y1614)) hsub rfl (by kernel_rfl) (by kernel_rfl) (fun w hI => s_pure (iv (if 0 > y1614 then 0 else y1614)) (by kernel_rfl) ⟨rfl, Below.refl _ _⟩) ?_
         obtain ⟨b1654, rfl, he1655⟩ := r1535.at_ eInt_len (by decide) hx1645
         refine al_on 15 (.pointer (some ⟨b1654, ((if 0 > y1614 then 0 else y1614).toNat) * 1, none⟩)) hsub rfl (by kernel_rfl) (by kernel_rfl) (fun w hI => s_indexR ((if 0 > y1614 then 0 else y1614).toNat) Try.underlying49 Try.sizeOf3 rfl rfl (Int.toNat_of_nonneg h318).symm (lt_n hx1645 rfl) ⟨rfl, Below.refl _ _⟩) ?_
         refine al_on 16 (iv x1644) hsub rfl (by kernel_rfl) (by kernel_rfl) (fun w hI => s_loadR1 hI 4 (iv x1644) Try.isAgg3 rfl rfl (he1655 0 _ rfl) ⟨rfl, Below.refl _ _⟩) ?_
         refine al_on 17 (.bool true) hsub rfl (by kernel_rfl) (by kernel_rfl) (fun w hI => s_neq rfl rfl (fun _ => ⟨rfl, Below.refl _ _⟩) (fun h => absurd (a := x1640 = x1644) h h319)) ?_
         refine alp 18 (.bool true) hsub rfl (by kernel_rfl) (fun _ => (by kernel_rfl)) ?_
         refine any_end (by kernel_rfl) (fun w hI => ?_)
         refine .inr ?_
         refine wp_condT rfl (rgn (by kernel_rfl) (pu (slv g1537 out_1536.length c1538) (by kernel_rfl) (pu (iv f_1541) (by kernel_rfl) (seq_c (s_new hI [iv f_1541] 3 (fun b => slv (some b) 1 1) (by kernel_rfl) ?_)))))
         intro b1656 w hI
         refine gdE hF (fun h320 hF => ?_)
         refine seq_c (s_appN hI Try.underlying49 (z := iv 0) (k := 1) (bytes := 8) (by kernel_rfl) rfl rfl 6 rfl rfl r1540 [iv f_1541] rfl rfl (hI.cells 0 (off := 0) rfl (fun j u h => by rw [Nat.zero_add]; exact h)) (by simp [Value.oneCell']) (by omega) (by omega) (n2 := (out_1536 ++ [f_1541]).length) (app_len rfl rfl) ?_)
         intro g1657 c1658 cl1659 w hI r1660
         have r1660 : Row 1 g1657 ((out_1536 ++ [f_1541]).length) c1658 cl1659 (flat eInt (out_1536 ++ [f_1541])) := r1660.snoc _ rfl
         refine pu (slv g1657 ((out_1536 ++ [f_1541]).length) c1658) (by kernel_rfl) (seq_nil ?_)
         exact .inl ⟨rfl, ⟨some b1652, c1529, cl1530, some b1654, c1533, cl1534, g1657, c1658, cl1659, out_1536 ++ [f_1541], ⟨rfl, rfl, rfl, rfl, rfl, rfl, trivial⟩, hI.pickL [1, 2, 3, 4, 5, 6] (by decide) rfl, (r1531.to rfl rfl), (r1535.to rfl rfl), (r1660.to rfl rfl), hF⟩⟩
       ·
        refine wp_drawn2 hI [0, 1, 2, 3, 4, 5] (by decide) rfl (by kernel_rfl) (by kernel_rfl) ?_
        intro hsub
        refine alp 0 (iv y1610) hsub rfl (by kernel_rfl) (fun _ => (by kernel_rfl)) ?_
        refine al_light 1 (.bool true) hsub rfl (by kernel_rfl) (fun w hI => s_geq rfl rfl (fun _ => ⟨rfl, Below.refl _ _⟩) (fun h => absurd (a := 0 ≤ y1610) h315 h)) ?_
        refine alp 2 (.bool true) hsub rfl (by kernel_rfl) (fun _ => (by kernel_rfl)) ?_
        refine al_on 3 (iv y1614) hsub rfl (by kernel_rfl) (by kernel_rfl) (fun w hI => s_pure (iv y1614) (by kernel_rfl) ⟨rfl, Below.refl _ _⟩) ?_
        refine al_on 4 (.bool false) hsub rfl (by kernel_rfl) (by kernel_rfl) (fun w hI => s_geq rfl rfl (fun h => absurd (a := 0 ≤ y1614) h h316) (fun _ => ⟨rfl, Below.refl _ _⟩)) ?_
        refine alp 5 (.bool false) hsub rfl (by kernel_rfl) (fun _ => (by kernel_rfl)) ?_
        refine alp 6 (.bool false) hsub rfl (by kernel_rfl) (fun _ => (by kernel_rfl)) ?_
        refine al_off 7 hsub rfl (by kernel_rfl) (by kernel_rfl) ?_
        refine al_off 8 hsub rfl (by kernel_rfl) (by kernel_rfl) ?_
        refine al_off 9 hsub rfl (by kernel_rfl) (by kernel_rfl) ?_
        refine al_off 10 hsub rfl (by kernel_rfl) (by kernel_rfl) ?_
        refine al_off 11 hsub rfl (by kernel_rfl) (by kernel_rfl) ?_
        refine al_off 12 hsub rfl (by kernel_rfl) (by kernel_rfl) ?_
        refine al_off 13 hsub rfl (by kernel_rfl) (by kernel_rfl) ?_
        refine al_off 14 hsub rfl (by kernel_rfl) (by kernel_rfl) ?_
        refine al_off 15 hsub rfl (by kernel_rfl) (by kernel_rfl) ?_
        refine al_off 16 hsub rfl (by kernel_rfl) (by kernel_rfl) ?_
        refine al_off 17 hsub rfl (by kernel_rfl) (by kernel_rfl) ?_
        refine alp 18 (.bool false) hsub rfl (by kernel_rfl) (fun _ => (by kernel_rfl)) ?_
        refine any_end (by kernel_rfl) (fun w hI => ?_)
        exact .inl ⟨rfl, ⟨g1528, c1529, cl1530, g1532, c1533, cl1534, ⟨rfl, rfl, rfl, rfl, rfl, rfl, rfl, trivial⟩, hI.pickL [0, 1, 2, 3, 4, 5] (by decide) rfl, (r1531.to rfl rfl), (r1535.to rfl rfl), hF⟩⟩
      ·
       refine wp_drawn2 hI [0, 1, 2, 3, 4, 5] (by decide) rfl (by kernel_rfl) (by kernel_rfl) ?_
       intro hsub
       refine alp 0 (iv y1610) hsub rfl (by kernel_rfl) (fun _ => (by kernel_rfl)) ?_
       refine al_light 1 (.bool false) hsub rfl (by kernel_rfl) (fun w hI => s_geq rfl rfl (fun h => absurd (a := 0 ≤ y1610) h h315) (fun _ => ⟨rfl, Below.refl _ _⟩)) ?_
       refine alp 2 (.bool false) hsub rfl (by kernel_rfl) (fun _ => (by kernel_rfl)) ?_
       refine al_off 3 hsub rfl (by kernel_rfl) (by kernel_rfl) ?_
       refine al_off 4 hsub rfl (by kernel_rfl) (by kernel_rfl) ?_
       refine alp 5 (.bool false) hsub rfl (by kernel_rfl) (fun _ => (by kernel_rfl)) ?_
       refine alp 6 (.bool false) hsub rfl (by kernel_rfl) (fun _ => (by kernel_rfl)) ?_
       refine al_off 7 hsub rfl (by kernel_rfl) (by kernel_rfl) ?_
       refine al_off 8 hsub rfl (by kernel_rfl) (by kernel_rfl) ?_
       refine al_off 9 hsub rfl (by kernel_rfl) (by kernel_rfl) ?_
       refine al_off 10 hsub rfl (by kernel_rfl) (by kernel_rfl) ?_
       refine al_off 11 hsub rfl (by kernel_rfl) (by kernel_rfl) ?_
       refine al_off 12 hsub rfl (by kernel_rfl) (by kernel_rfl) ?_
       refine al_off 13 hsub rfl (by kernel_rfl) (by kernel_rfl) ?_
       refine al_off 14 hsub rfl (by kernel_rfl) (by kernel_rfl) ?_
       refine al_off 15 hsub rfl (by kernel_rfl) (by kernel_rfl) ?_
       refine al_off 16 hsub rfl (by kernel_rfl) (by kernel_rfl) ?_
       refine al_off 17 hsub rfl (by kernel_rfl) (by kernel_rfl) ?_
       refine alp 18 (.bool false) hsub rfl (by kernel_rfl) (fun _ => (by kernel_rfl)) ?_
       refine any_end (by kernel_rfl) (fun w hI => ?_)
       exact .inl ⟨rfl, ⟨g1528, c1529, cl1530, g1532, c1533, cl1534, ⟨rfl, rfl, rfl, rfl, rfl, rfl, rfl, trivial⟩, hI.pickL [0, 1, 2, 3, 4, 5] (by decide) rfl, (r1531.to rfl rfl), (r1535.to rfl rfl), hF⟩⟩
     ·intro ρ w hJ
      obtain ⟨g1632, c1633, cl1634, g1636, c1637, cl1638, hag, hI, r1635, r1639, hF⟩ := hJ
      obtain ⟨ρ, rfl⟩ := hag.form; clear hag
      unfold F58j3 at hF
      refine wp_condF rfl (wp_skip ?_)
      exact .inl ⟨rfl, ⟨g1632, c1633, cl1634, g1636, c1637, cl1638, g1537, c1538, cl1539, out_1536, ⟨rfl, rfl, rfl, rfl, rfl, rfl, trivial⟩, hI.pickL [0, 1, 2, 3, 4, 5] (by decide) rfl, (r1635.to rfl rfl), (r1639.to rfl rfl), (r1540.to rfl rfl), hF⟩⟩
    ·intro ρ w hJ
     obtain ⟨g1595, c1596, cl1597, g1599, c1600, cl1601, g1604, c1605, cl1606, out_1603, hag, hI, r1598, r1602, r1607, hF⟩ := hJ
     obtain ⟨ρ, rfl⟩ := hag.form; clear hag
     unfold F58j2 at hF
     refine rgn (by kernel_rfl) (pu (iv f_1541) (by kernel_rfl) (ckE hF (fun h309 hF => ?_)))
     refine seq_c (s_add rfl rfl h309 ?_)
     refine pu (iv (f_1541 + 1)) (by kernel_rfl) (seq_nil ?_)
     exact ⟨rfl, m1, Nat.lt_succ_self _, ⟨g1595, c1596, cl1597, g1599, c1600, cl1601, g1604, c1605, cl1606, out_1603, f_1541 + 1, m1, ⟨rfl, rfl, rfl, rfl, rfl, rfl, trivial⟩, hI.pickL [0, 1, 2, 3, 4, 5] (by decide) rfl, (r1598.to rfl rfl), (r1602.to rfl rfl), (r1607.to rfl rfl), hF, rfl⟩⟩
   ·
    refine seq_c (s_leq rfl rfl (fun h => absurd (a := f_1541 ≤ 99) h h297) (fun _ => ?_))
    refine seq_nil (wp_condF rfl (wp_exit ?_))
    refine wp_seq (rgn (by kernel_rfl) (pu (slv g1537 out_1536.length c1538) (by kernel_rfl) (pu (slv g1537 out_1536.length c1538) (by kernel_rfl) (pu (iv 0) (by kernel_rfl) (seq_nil (wp_ret ?_))))))
    replace hF := Option.some.inj hF; subst hF
    exact ⟨.tuple #[slv g1537 out_1536.length c1538, iv 0], Ret.r2 rfl rfl rfl, ⟨g1537, c1538, cl1539, rfl, hI.pickL [5] (by decide) rfl, r1540.to rfl rfl⟩⟩
 ·
  refine seq_c (s_neq rfl rfl (fun _ => ?_) (fun h => absurd (a := y838 = 0) h h164))
  refine seq_nil (wp_condT rfl (wp_seq (rgn (by kernel_rfl) (pu (.slice none 0 0) (by kernel_rfl) (pu (iv 52) (by kernel_rfl) (seq_nil (wp_ret ?_)))))))
  have hI := hI.nilRow 3
  replace hF := Option.some.inj hF; subst hF
  exact ⟨.tuple #[.slice none 0 0, iv 52], Ret.r2 rfl rfl rfl, ⟨none, 0, [], rfl, hI.pickL [0] (by decide) rfl, Row.nil_ 1⟩⟩


theorem L7 (w0 : World) (p0_0 : Int) (Ap0_1 : Option Addr) (cp0_1 : Nat) (lp0_1 : List Cm) (p1 : Int) (p2 : Int) (hCp0_1 : Cells w0 Ap0_1 (flat eCm lp0_1)) (hMp0_1 : lp0_1.length ≤ 9223372036854775807) (hKp0_1 : lp0_1.length ≤ cp0_1) (N : Nat) (r : Bool) (hF : F7 N p0_0 lp0_1 p1 p2 = some r) : Does Try.prog 7 [.agg #[.int .i64 p0_0, .slice Ap0_1 lp0_1.length cp0_1], .int .i64 p1, .int .i64 p2] w0 fun v w => v = .bool r ∧ Below w0.heap.size w0 w := by
 refine calls_of (n := 86) Try.func7 rfl Try.ntmps7 rfl ?_
 have hI := Inv.start w0
 unfold F7 at hF
 refine wp_seq (rgn (by kernel_rfl) (seq_c (s_boxI hI [iv p0_0, .slice Ap0_1 lp0_1.length cp0_1] rfl ?_)))
 intro b71 w hI
 refine pu (.bool false) (by kernel_rfl) (seq_nil (wp_seq (rgn (by kernel_rfl) (seq_c (s_loadK hI 0 2 [iv p0_0, .slice Ap0_1 lp0_1.length cp0_1] Try.isAgg24 Try.sizeOf24 rfl rfl rfl rfl ?_)))))
 refine pu (iv p1) (by kernel_rfl) (pu (iv p2) (by kernel_rfl) (bindE hF (fun y74 hy75 hF => ?_)))
 refine seq_c (s_callv hI 53 [.agg #[iv p0_0, .slice Ap0_1 lp0_1.length cp0_1], iv p1, iv p2] (.tuple #[iv y74.1, iv y74.2]) (by kernel_rfl) (L53 _ p0_0 Ap0_1 cp0_1 lp0_1 p1 p2 (hCp0_1.inv0 hI) hMp0_1 hKp0_1 N _ hy75) ?_)
 intro w hI
 refine pu (.tuple #[iv y74.1, iv y74.2]) (by kernel_rfl) (pu (iv y74.1) (by kernel_rfl) (pu (iv y74.2) (by kernel_rfl) (pu (iv y74.1) (by kernel_rfl) (pu (iv y74.2) (by kernel_rfl) (seq_nil (wp_seq (rgn (by kernel_rfl) (seq_c (s_loadK hI 0 2 [iv p0_0, .slice Ap0_1 lp0_1.length cp0_1] Try.isAgg24 Try.sizeOf24 rfl rfl rfl rfl ?_)))))))))
 refine pu (iv p1) (by kernel_rfl) (pu (iv p2) (by kernel_rfl) (bindE hF (fun y78 hy79 hF => ?_)))
 refine seq_c (s_callv hI 54 [.agg #[iv p0_0, .slice Ap0_1 lp0_1.length cp0_1], iv p1, iv p2] (.tuple #[iv y78.1, iv y78.2]) (by kernel_rfl) (L54 _ p0_0 Ap0_1 cp0_1 lp0_1 p1 p2 (hCp0_1.inv0 hI) hMp0_1 hKp0_1 N _ hy79) ?_)
 intro w hI
 refine pu (.tuple #[iv y78.1, iv y78.2]) (by kernel_rfl) (pu (iv y78.1) (by kernel_rfl) (pu (iv y78.2) (by kernel_rfl) (pu (iv y78.1) (by kernel_rfl) (pu (iv y78.2) (by kernel_rfl) (seq_nil (wp_seq (rgn (by kernel_rfl) (seq_c (s_loadK hI 0 2 [iv p0_0, .slice Ap0_1 lp0_1.length cp0_1] Try.isAgg24 Try.sizeOf24 rfl rfl rfl rfl ?_)))))))))
 refine bindE hF (fun y86 hy87 hF => ?_)
 refine seq_c (s_call 55 [.agg #[iv p0_0, .slice Ap0_1 lp0_1.length cp0_1]] (by kernel_rfl) (L55 _ p0_0 Ap0_1 cp0_1 lp0_1 (hCp0_1.inv0 hI) hMp0_1 hKp0_1 N _ hy87) ?_)
 rintro v w ⟨g88, c89, cl90, rfl, hN, r91⟩
 have hI := hI.join hN; clear hN
 refine pu (.tuple #[slv g88 y86.1.length c89, iv y86.2]) (by kernel_rfl) (pu (slv g88 y86.1.length c89) (by kernel_rfl) (pu (iv y86.2) (by kernel_rfl) (pu (slv g88 y86.1.length c89) (by kernel_rfl) (pu (iv y86.2) (by kernel_rfl) (seq_nil (wp_seq (rgn (by kernel_rfl) (seq_c (s_loadK hI 1 2 [iv p0_0, .slice Ap0_1 lp0_1.length cp0_1] Try.isAgg24 Try.sizeOf24 rfl rfl rfl rfl ?_)))))))))
 refine bindE hF (fun y98 hy99 hF => ?_)
 refine seq_c (s_call 56 [.agg #[iv p0_0, .slice Ap0_1 lp0_1.length cp0_1]] (by kernel_rfl) (L56 _ p0_0 Ap0_1 cp0_1 lp0_1 (hCp0_1.inv0 hI) hMp0_1 hKp0_1 N _ hy99) ?_)
 rintro v w ⟨g100, c101, cl102, rfl, hN, r103⟩
 have hI := hI.join hN; clear hN
 refine pu (.tuple #[slv g100 y98.1.length c101, iv y98.2]) (by kernel_rfl) (pu (slv g100 y98.1.length c101) (by kernel_rfl) (pu (iv y98.2) (by kernel_rfl) (pu (slv g100 y98.1.length c101) (by kernel_rfl) (pu (iv y98.2) (by kernel_rfl) (seq_nil (wp_seq (rgn (by kernel_rfl) (seq_c (s_loadK hI 2 2 [iv p0_0, .slice Ap0_1 lp0_1.length cp0_1] Try.isAgg24 Try.sizeOf24 rfl rfl rfl rfl ?_)))))))))
 refine pu (iv p1) (by kernel_rfl) (bindE hF (fun y110 hy111 hF => ?_))
 refine seq_c (s_call 57 [.agg #[iv p0_0, .slice Ap0_1 lp0_1.length cp0_1], iv p1] (by kernel_rfl) (L57 _ p0_0 Ap0_1 cp0_1 lp0_1 p1 (hCp0_1.inv0 hI) hMp0_1 hKp0_1 N _ hy111) ?_)
 rintro v w ⟨g112, c113, cl114, rfl, hN, r115⟩
 have hI := hI.join hN; clear hN
 refine pu (.tuple #[slv g112 y110.1.length c113, iv y110.2]) (by kernel_rfl) (pu (slv g112 y110.1.length c113) (by kernel_rfl) (pu (iv y110.2) (by kernel_rfl) (pu (slv g112 y110.1.length c113) (by kernel_rfl) (pu (iv y110.2) (by kernel_rfl) (seq_nil (wp_seq (rgn (by kernel_rfl) (seq_c (s_loadK hI 3 2 [iv p0_0, .slice Ap0_1 lp0_1.length cp0_1] Try.isAgg24 Try.sizeOf24 rfl rfl rfl rfl ?_)))))))))
 refine pu (iv p1) (by kernel_rfl) (bindE hF (fun y122 hy123 hF => ?_))
 refine seq_c (s_call 58 [.agg #[iv p0_0, .slice Ap0_1 lp0_1.length cp0_1], iv p1] (by kernel_rfl) (L58 _ p0_0 Ap0_1 cp0_1 lp0_1 p1 (hCp0_1.inv0 hI) hMp0_1 hKp0_1 N _ hy123) ?_)
 rintro v w ⟨g124, c125, cl126, rfl, hN, r127⟩
 have hI := hI.join hN; clear hN
 refine pu (.tuple #[slv g124 y122.1.length c125, iv y122.2]) (by kernel_rfl) (pu (slv g124 y122.1.length c125) (by kernel_rfl) (pu (iv y122.2) (by kernel_rfl) (pu (slv g124 y122.1.length c125) (by kernel_rfl) (pu (iv y122.2) (by kernel_rfl) (seq_nil (wp_seq (rgn (by kernel_rfl) (pu (iv y74.1) (by kernel_rfl) (pu (iv y78.1) (by kernel_rfl) ?_)))))))))
 refine ifE hF (fun h19 hF => ?_) (fun h19 hF => ?_)
 ·
  refine seq_c (s_eql rfl rfl (fun _ => ?_) (fun h => absurd (a := y74.1 = y78.1) h19 h))
  refine pu (.bool true) (by kernel_rfl) (puo (iv y74.2) ⟨(by kernel_rfl), (by kernel_rfl)⟩ (puo (iv y78.2) ⟨(by kernel_rfl), (by kernel_rfl)⟩ (ifE hF (fun h20 hF => ?_) (fun h20 hF => ?_))))
  ·
   refine seq_on (by kernel_rfl) (s_eql rfl rfl (fun _ => ?_) (fun h => absurd (a := y74.2 = y78.2) h20 h))
   refine pu (.bool true) (by kernel_rfl) (pu (.bool true) (by kernel_rfl) (puo (slv g88 y86.1.length c89) ⟨(by kernel_rfl), (by kernel_rfl)⟩ (puo (slv g100 y98.1.length c101) ⟨(by kernel_rfl), (by kernel_rfl)⟩ (bindE hF (fun y135 hy136 hF => ?_)))))
   refine ifE hF (fun h21 hF => ?_) (fun h21 hF => ?_)
   ·
    refine seq_on (by kernel_rfl) (s_callv hI 41 [slv g88 y86.1.length c89, slv g100 y98.1.length c101] (.bool true) (by kernel_rfl) (Does.mono (L41 _ (g88.map fun b => ⟨b, 0, none⟩) c89 y86.1 (g100.map fun b => ⟨b, 0, none⟩) c101 y98.1 (hI.rowCells 3 rfl r91) (len_le rfl r91.big) (len_le rfl r91.cap) (hI.rowCells 2 rfl r103) (len_le rfl r103.big) (len_le rfl r103.cap) N _ hy136) (fun v' w' h => ⟨h.1.trans (congrArg Value.bool h21), h.2⟩)) ?_)
    intro w hI
    refine pu (.bool true) (by kernel_rfl) (pu (.bool true) (by kernel_rfl) (puo (iv y86.2) ⟨(by kernel_rfl), (by kernel_rfl)⟩ (puo (iv y98.2) ⟨(by kernel_rfl), (by kernel_rfl)⟩ (ifE hF (fun h22 hF => ?_) (fun h22 hF => ?_)))))
    ·
     refine seq_on (by kernel_rfl) (s_eql rfl rfl (fun _ => ?_) (fun h => absurd (a := y86.2 = y98.2) h22 h))
     refine pu (.bool true) (by kernel_rfl) (pu (.bool true) (by kernel_rfl) (puo (slv g112 y110.1.length c113) ⟨(by kernel_rfl), (by kernel_rfl)⟩ (puo (slv g124 y122.1.length c125) ⟨(by kernel_rfl), (by kernel_rfl)⟩ (bindE hF (fun y137 hy138 hF => ?_)))))
     refine ifE hF (fun h23 hF => ?_) (fun h23 hF => ?_)
     ·
      refine seq_on (by kernel_rfl) (s_callv hI 41 [slv g112 y110.1.length c113, slv g124 y122.1.length c125] (.bool true) (by kernel_rfl) (Does.mono (L41 _ (g112.map fun b => ⟨b, 0, none⟩) c113 y110.1 (g124.map fun b => ⟨b, 0, none⟩) c125 y122.1 (hI.rowCells 1 rfl r115) (len_le rfl r115.big) (len_le rfl r115.cap) (hI.rowCells 0 rfl r127) (len_le rfl r127.big) (len_le rfl r127.cap) N _ hy138) (fun v' w' h => ⟨h.1.trans (congrArg Value.bool h23), h.2⟩)) ?_)
      intro w hI
      refine pu (.bool true) (by kernel_rfl) (pu (.bool true) (by kernel_rfl) (puo (iv y110.2) ⟨(by kernel_rfl), (by kernel_rfl)⟩ (puo (iv y122.2) ⟨(by kernel_rfl), (by kernel_rfl)⟩ (ifE hF (fun h24 hF => ?_) (fun h24 hF => ?_)))))
      ·
       refine seq_on (by kernel_rfl) (s_eql rfl rfl (fun _ => ?_) (fun h => absurd (a := y110.2 = y122.2) h24 h))
       refine pu (.bool true) (by kernel_rfl) (pu (.bool true) (by kernel_rfl) (bindE hF (fun y139 hy140 hF => ?_)))
       refine seq_on (by kernel_rfl) (s_callv hI 25 [] (.bool y139) (by kernel_rfl) (L25 _ N _ hy140) ?_)
       intro w hI
       refine pu (.bool y139) (by kernel_rfl) (pu (.bool y139) (by kernel_rfl) (seq_nil (wp_ret ?_)))
       replace hF := Option.some.inj hF; subst hF
       exact ⟨.bool y139, Ret.r1 rfl rfl, ⟨rfl, hI.below⟩⟩
      ·
       refine seq_on (by kernel_rfl) (s_eql rfl rfl (fun h => absurd (a := y110.2 = y122.2) h h24) (fun _ => ?_))
       refine pu (.bool false) (by kernel_rfl) (pu (.bool false) (by kernel_rfl) (of_ (by kernel_rfl) (pu (.bool false) (by kernel_rfl) (pu (.bool false) (by kernel_rfl) (seq_nil (wp_ret ?_))))))
       replace hF := Option.some.inj hF; subst hF
       exact ⟨.bool false, Ret.r1 rfl rfl, ⟨rfl, hI.below⟩⟩
     ·
      refine seq_on (by kernel_rfl) (s_callv hI 41 [slv g112 y110.1.length c113, slv g124 y122.1.length c125] (.bool false) (by kernel_rfl) (Does.mono (L41 _ (g112.map fun b => ⟨b, 0, none⟩) c113 y110.1 (g124.map fun b => ⟨b, 0, none⟩) c125 y122.1 (hI.rowCells 1 rfl r115) (len_le rfl r115.big) (len_le rfl r115.cap) (hI.rowCells 0 rfl r127) (len_le rfl r127.big) (len_le rfl r127.cap) N _ hy138) (fun v' w' h => ⟨h.1.trans (congrArg Value.bool (Bool.eq_false_iff.2 h23)), h.2⟩)) ?_)
      intro w hI
      refine pu (.bool false) (by kernel_rfl) (pu (.bool false) (by kernel_rfl) (of_ (by kernel_rfl) (of_ (by kernel_rfl) (of_ (by kernel_rfl) (pu (.bool false) (by kernel_rfl) (pu (.bool false) (by kernel_rfl) (of_ (by kernel_rfl) (pu (.bool false) (by kernel_rfl) (pu (.bool false) (by kernel_rfl) ?_)))))))))
      refine seq_nil (wp_ret ?_)
      replace hF := Option.some.inj hF; subst hF
      exact ⟨.bool false, Ret.r1 rfl rfl, ⟨rfl, hI.below⟩⟩
    ·
     refine seq_on (by kernel_rfl) (s_eql rfl rfl (fun h => absurd (a := y86.2 = y98.2) h h22) (fun _ => ?_))
     refine pu (.bool false) (by kernel_rfl) (pu (.bool false) (by kernel_rfl) (of_ (by kernel_rfl) (of_ (by kernel_rfl) (of_ (by kernel_rfl) (pu (.bool false) (by kernel_rfl) (pu (.bool false) (by kernel_rfl) (of_ (by kernel_rfl) (of_ (by kernel_rfl) (of_ (by kernel_rfl) ?_)))))))))
     refine pu (.bool false) (by kernel_rfl) (pu (.bool false) (by kernel_rfl) (of_ (by kernel_rfl) (pu (.bool false) (by kernel_rfl) (pu (.bool false) (by kernel_rfl) (seq_nil (wp_ret ?_))))))
     replace hF := Option.some.inj hF; subst hF
     exact ⟨.bool false, Ret.r1 rfl rfl, ⟨rfl, hI.below⟩⟩
   ·
    refine seq_on (by kernel_rfl) (s_callv hI 41 [slv g88 y86.1.length c89, slv g100 y98.1.length c101] (.bool false) (by kernel_rfl) (Does.mono (L41 _ (g88.map fun b => ⟨b, 0, none⟩) c89 y86.1 (g100.map fun b => ⟨b, 0, none⟩) c101 y98.1 (hI.rowCells 3 rfl r91) (len_le rfl r91.big) (len_le rfl r91.cap) (hI.rowCells 2 rfl r103) (len_le rfl r103.big) (len_le rfl r103.cap) N _ hy136) (fun v' w' h => ⟨h.1.trans (congrArg Value.bool (Bool.eq_false_iff.2 h21)), h.2⟩)) ?_)
    intro w hI
    refine pu (.bool false) (by kernel_rfl) (pu (.bool false) (by kernel_rfl) (of_ (by kernel_rfl) (of_ (by kernel_rfl) (of_ (by kernel_rfl) (pu (.bool false) (by kernel_rfl) (pu (.bool false) (by kernel_rfl) (of_ (by kernel_rfl) (of_ (by kernel_rfl) (of_ (by kernel_rfl) ?_)))))))))
    refine pu (.bool false) (by kernel_rfl) (pu (.bool false) (by kernel_rfl) (of_ (by kernel_rfl) (of_ (by kernel_rfl) (of_ (by kernel_rfl) (pu (.bool false) (by kernel_rfl) (pu (.bool false) (by kernel_rfl) (of_ (by kernel_rfl) (pu (.bool false) (by kernel_rfl) (pu (.bool false) (by kernel_rfl) ?_)))))))))
    refine seq_nil (wp_ret ?_)
    replace hF := Option.some.inj hF; subst hF
    exact ⟨.bool false, Ret.r1 rfl rfl, ⟨rfl, hI.below⟩⟩
  ·
   refine seq_on (by kernel_rfl) (s_eql rfl rfl (fun h => absurd (a := y74.2 = y78.2) h h20) (fun _ => ?_))
   refine pu (.bool false) (by kernel_rfl) (pu (.bool false) (by kernel_rfl) (of_ (by kernel_rfl) (of_ (by kernel_rfl) (of_ (by kernel_rfl) (pu (.bool false) (by kernel_rfl) (pu (.bool false) (by kernel_rfl) (of_ (by kernel_rfl) (of_ (by kernel_rfl) (of_ (by kernel_rfl) ?_)))))))))
   refine pu (.bool false) (by kernel_rfl) (pu (.bool false) (by kernel_rfl) (of_ (by kernel_rfl) (of_ (by kernel_rfl) (of_ (by kernel_rfl) (pu (.bool false) (by kernel_rfl) (pu (.bool false) (by kernel_rfl) (of_ (by kernel_rfl) (of_ (by kernel_rfl) (of_ (by kernel_rfl) ?_)))))))))
   refine pu (.bool false) (by kernel_rfl) (pu (.bool false) (by kernel_rfl) (of_ (by kernel_rfl) (pu (.bool false) (by kernel_rfl) (pu (.bool false) (by kernel_rfl) (seq_nil (wp_ret ?_))))))
   replace hF := Option.some.inj hF; subst hF
   exact ⟨.bool false, Ret.r1 rfl rfl, ⟨rfl, hI.below⟩⟩
 ·
  refine seq_c (s_eql rfl rfl (fun h => absurd (a := y74.1 = y78.1) h h19) (fun _ => ?_))
  refine pu (.bool false) (by kernel_rfl) (of_ (by kernel_rfl) (of_ (by kernel_rfl) (of_ (by kernel_rfl) (pu (.bool false) (by kernel_rfl) (pu (.bool false) (by kernel_rfl) (of_ (by kernel_rfl) (of_ (by kernel_rfl) (of_ (by kernel_rfl) (pu (.bool false) (by kernel_rfl) ?_)))))))))
  refine pu (.bool false) (by kernel_rfl) (of_ (by kernel_rfl) (of_ (by kernel_rfl) (of_ (by kernel_rfl) (pu (.bool false) (by kernel_rfl) (pu (.bool false) (by kernel_rfl) (of_ (by kernel_rfl) (of_ (by kernel_rfl) (of_ (by kernel_rfl) (pu (.bool false) (by kernel_rfl) ?_)))))))))
  refine pu (.bool false) (by kernel_rfl) (of_ (by kernel_rfl) (of_ (by kernel_rfl) (of_ (by kernel_rfl) (pu (.bool false) (by kernel_rfl) (pu (.bool false) (by kernel_rfl) (of_ (by kernel_rfl) (pu (.bool false) (by kernel_rfl) (pu (.bool false) (by kernel_rfl) (seq_nil ?_)))))))))
  refine wp_ret ?_
  replace hF := Option.some.inj hF; subst hF
  exact ⟨.bool false, Ret.r1 rfl rfl, ⟨rfl, hI.below⟩⟩

end Go.K
