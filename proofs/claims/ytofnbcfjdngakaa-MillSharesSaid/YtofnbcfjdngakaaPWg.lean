/- That the functions do what the pure definitions say: walks, as tools/lift.py writes them. No condition. -/
import Derived.Test.YtofnbcfjdngakaaPWf
namespace Go.K
open Go.Proofs Go.RowKit
set_option linter.unusedVariables false
set_option linter.unusedSimpArgs false
set_option maxRecDepth 100000
attribute [local irreducible] Seq Step CallV AnyE opX
theorem L83 (w0 : World) (p0_0 : Int) (Ap0_1 : Option Addr) (cp0_1 : Nat) (lp0_1 : List Cm) (hCp0_1 : Cells w0 Ap0_1 (flat eCm lp0_1)) (hMp0_1 : lp0_1.length ≤ 9223372036854775807) (hKp0_1 : lp0_1.length ≤ cp0_1) (N : Nat) (r : List Int) (hF : F83 N p0_0 lp0_1 = some r) : Does Try.prog 83 [.agg #[.int .i64 p0_0, .slice Ap0_1 lp0_1.length cp0_1]] w0 fun v w => ∃ (z0 : Option Nat) (z1 : Nat) (z2 : List Value), v = slv z0 r.length z1 ∧ Inv [] w0 w [(z0, blk z2 3)] ∧ Row 1 z0 r.length z1 z2 (flat eInt r) := by
 refine calls_of (n := 65) Try.func83 rfl Try.ntmps83 rfl ?_
 have hI := Inv.start w0
 unfold F83 at hF
 refine wp_seq (rgn (by kernel_rfl) (seq_c (s_boxI hI [iv p0_0, .slice Ap0_1 lp0_1.length cp0_1] rfl ?_)))
 intro b13619 w hI
 refine pu (.slice none 0 0) (by kernel_rfl) (seq_nil (wp_seq (rgn (by kernel_rfl) (pu (.pointer (some ⟨b13619, 1, none⟩)) (by kernel_rfl) (seq_c (s_load1 hI 0 (.slice Ap0_1 lp0_1.length cp0_1) Try.isAgg22 rfl rfl rfl ?_))))))
 refine pu (iv ((lp0_1.length : Nat) : Int)) (by kernel_rfl) (gdE hF (fun h1227 hF => ?_))
 refine gdE hF (fun h1228 hF => ?_)
 refine seq_c (s_makeRowN hI (enc := eInt) eInt_len (by decide) ((0 : Int)) Try.underlying49 (z := iv 0) (k := 1) (bytes := 8) (by kernel_rfl) rfl ((lp0_1.length : Int)).toNat (congrArg (Value.int .i64) (Int.toNat_of_nonneg h1227).symm) (congrArg (Value.int .i64) (Int.toNat_of_nonneg h1227).symm) (by omega) (by decide) ?_)
 intro b13623 cl13624 w hI r13625
 refine pu (slv (some b13623) ((List.replicate ((lp0_1.length : Int)).toNat (0 : Int)).length) (((lp0_1.length : Int)).toNat)) (by kernel_rfl) (seq_nil (wp_seq (rgn (by kernel_rfl) (seq_c (s_loadK hI 1 2 [iv p0_0, .slice Ap0_1 lp0_1.length cp0_1] Try.isAgg24 Try.sizeOf24 rfl rfl rfl rfl ?_)))))
 refine pu (slv (some b13623) ((List.replicate ((lp0_1.length : Int)).toNat (0 : Int)).length) (((lp0_1.length : Int)).toNat)) (by kernel_rfl) (bindE hF (fun y13633 hy13634 hF => ?_))
 refine seq_c (s_call 81 [.agg #[iv p0_0, .slice Ap0_1 lp0_1.length cp0_1], slv (some b13623) ((List.replicate ((lp0_1.length : Int)).toNat (0 : Int)).length) (((lp0_1.length : Int)).toNat)] (by kernel_rfl) (L81 _ p0_0 Ap0_1 cp0_1 lp0_1 ((some b13623).map fun b => ⟨b, 0, none⟩) (((lp0_1.length : Int)).toNat) (List.replicate ((lp0_1.length : Int)).toNat (0 : Int)) (hCp0_1.inv0 hI) hMp0_1 hKp0_1 (hI.rowCells 0 rfl r13625) (len_le rfl r13625.big) (len_le rfl r13625.cap) N _ hy13634) ?_)
 rintro v w ⟨g13635, c13636, cl13637, rfl, hN, r13638⟩
 have hI := hI.join hN; clear hN
 refine pu (.tuple #[.agg #[slv g13635 y13633.1.length c13636], .bool y13633.2]) (by kernel_rfl) (pu (.agg #[slv g13635 y13633.1.length c13636]) (by kernel_rfl) (pu (.bool y13633.2) (by kernel_rfl) (seq_c (s_allocI hI [.slice none 0 0] Try.zeroValue97 rfl ?_))))
 intro b13639 w hI
 refine seq_c (s_store hI 0 1 [slv g13635 y13633.1.length c13636] Try.sizeOf97 rfl rfl rfl rfl rfl (Nat.le_of_ble_eq_true rfl) ?_)
 intro w hI
 refine pu (.bool y13633.2) (by kernel_rfl) (seq_nil (wp_seq (wp_seq (rgn (by kernel_rfl) (pu (iv 1) (by kernel_rfl) (seq_nil (wp_block ?_)))))))
 refine wp_loop (fun m ρ w => ∃ (g24953 : Option Nat) (c24954 : Nat) (cl24955 : List Value) (g24958 : Option Nat) (c24959 : Nat) (cl24960 : List Value) (u24952 : List Int) (u24957 : List Int) (v24962 : Int) (mm : Nat), Agree ρ [(1, .pointer (some ⟨b13619, 0, none⟩)), (3, slv g24953 u24952.length c24954), (4, .pointer (some ⟨b13639, 0, none⟩)), (6, iv v24962)] ∧ Inv [] w0 w [(some b13619, blk [iv p0_0, .slice Ap0_1 lp0_1.length cp0_1] 24), (g24953, blk cl24955 3), (some b13639, blk [slv g24958 u24957.length c24959] 97), (g24958, blk cl24960 3)] ∧ (Row 1 g24953 (u24952.length) c24954 cl24955 (flat eInt u24952)) ∧ (Row 1 g24958 (u24957.length) c24959 cl24960 (flat eInt u24957)) ∧ F83l1 p0_0 lp0_1 N mm u24952 u24957 v24962 = some r ∧ mm = m) (m := N) ⟨some b13623, ((lp0_1.length : Int)).toNat, cl13624, g13635, c13636, cl13637, List.replicate ((lp0_1.length : Int)).toNat (0 : Int), y13633.1, 1, N, ⟨rfl, rfl, rfl, rfl, trivial⟩, hI.pickL [3, 2, 0, 1] (by decide) rfl, (r13625.to rfl rfl), (r13638.to rfl rfl), hF, rfl⟩ ?_
 rintro m ρ w ⟨g24953, c24954, cl24955, g24958, c24959, cl24960, u24952, u24957, v24962, mm, hag, hI, r24956, r24961, hF, hm⟩
 subst hm; obtain ⟨ρ, rfl⟩ := hag.form; clear hag
 obtain _ | m1 := mm
 ·cases (show (none : Option (List Int)) = some r from hF)
 replace hF : F83b1 p0_0 lp0_1 N (F83l1 p0_0 lp0_1 N m1) u24952 u24957 v24962 = some r := hF; unfold F83b1 at hF
 refine wp_seq (wp_seq (rgn (by kernel_rfl) (pu (iv v24962) (by kernel_rfl) (ifE hF (fun h2231 hF => ?_) (fun h2231 hF => ?_)))))
 ·
  refine seq_c (s_leq rfl rfl (fun _ => ?_) (fun h => absurd (a := v24962 ≤ 24) h2231 h))
  refine seq_nil (wp_condT rfl (wp_skip (wp_cutO (fun ρ w => ∃ (g26096 : Option Nat) (c26097 : Nat) (cl26098 : List Value) (g26101 : Option Nat) (c26102 : Nat) (cl26103 : List Value) (u26095 : List Int) (u26100 : List Int), Agree ρ [(1, .pointer (some ⟨b13619, 0, none⟩)), (3, slv g26096 u26095.length c26097), (4, .pointer (some ⟨b13639, 0, none⟩)), (6, iv v24962)] ∧ Inv [] w0 w [(some b13619, blk [iv p0_0, .slice Ap0_1 lp0_1.length cp0_1] 24), (g26096, blk cl26098 3), (some b13639, blk [slv g26101 u26100.length c26102] 97), (g26101, blk cl26103 3)] ∧ (Row 1 g26096 (u26095.length) c26097 cl26098 (flat eInt u26095)) ∧ (Row 1 g26101 (u26100.length) c26102 cl26103 (flat eInt u26100)) ∧ F83j2 (F83l1 p0_0 lp0_1 N m1) v24962 u26095 u26100 = some r) ?_ ?_)))
  ·
   refine wp_block ?_
   refine wp_seq (rgn (by kernel_rfl) (pu (iv 0) (by kernel_rfl) (seq_nil (wp_block ?_))))
   refine wp_loop (fun m ρ w => ∃ (g26857 : Option Nat) (c26858 : Nat) (cl26859 : List Value) (g26862 : Option Nat) (c26863 : Nat) (cl26864 : List Value) (u26856 : List Int) (u26861 : List Int) (v26866 : Int) (mm : Nat), Agree ρ [(1, .pointer (some ⟨b13619, 0, none⟩)), (3, slv g26857 u26856.length c26858), (4, .pointer (some ⟨b13639, 0, none⟩)), (6, iv v24962), (7, iv v26866)] ∧ Inv [] w0 w [(some b13619, blk [iv p0_0, .slice Ap0_1 lp0_1.length cp0_1] 24), (g26857, blk cl26859 3), (some b13639, blk [slv g26862 u26861.length c26863] 97), (g26862, blk cl26864 3)] ∧ (Row 1 g26857 (u26856.length) c26858 cl26859 (flat eInt u26856)) ∧ (Row 1 g26862 (u26861.length) c26863 cl26864 (flat eInt u26861)) ∧ F83l3 p0_0 lp0_1 N (F83l1 p0_0 lp0_1 N m1) v24962 mm u26856 u26861 v26866 = some r ∧ mm = m) (m := N) ⟨g24953, c24954, cl24955, g24958, c24959, cl24960, u24952, u24957, 0, N, ⟨rfl, rfl, rfl, rfl, rfl, trivial⟩, hI.pickL [0, 1, 2, 3] (by decide) rfl, (r24956.to rfl rfl), (r24961.to rfl rfl), hF, rfl⟩ ?_
   rintro m ρ w ⟨g26857, c26858, cl26859, g26862, c26863, cl26864, u26856, u26861, v26866, mm, hag, hI, r26860, r26865, hF, hm⟩
   subst hm; obtain ⟨ρ, rfl⟩ := hag.form; clear hag
   obtain _ | m3 := mm
   ·cases (show (none : Option (List Int)) = some r from hF)
   replace hF : F83b3 p0_0 lp0_1 N (F83l1 p0_0 lp0_1 N m1) v24962 (F83l3 p0_0 lp0_1 N (F83l1 p0_0 lp0_1 N m1) v24962 m3) u26856 u26861 v26866 = some r := hF; unfold F83b3 at hF
   refine wp_seq (wp_seq (rgn (by kernel_rfl) (pu (iv v26866) (by kernel_rfl) (pu (.pointer (some ⟨b13619, 1, none⟩)) (by kernel_rfl) (seq_c (s_load1 hI 0 (.slice Ap0_1 lp0_1.length cp0_1) Try.isAgg22 rfl rfl rfl ?_))))))
   refine pu (iv ((lp0_1.length : Nat) : Int)) (by kernel_rfl) (ifE hF (fun h2413 hF => ?_) (fun h2413 hF => ?_))
   ·
    refine seq_c (s_lss rfl rfl (fun _ => ?_) (fun h => absurd (a := v26866 < (lp0_1.length : Int)) h2413 h))
    refine seq_nil (wp_condT rfl (wp_skip (wp_cutO (fun ρ w => ∃ (g27048 : Option Nat) (c27049 : Nat) (cl27050 : List Value) (g27053 : Option Nat) (c27054 : Nat) (cl27055 : List Value) (u27047 : List Int) (u27052 : List Int), Agree ρ [(1, .pointer (some ⟨b13619, 0, none⟩)), (3, slv g27048 u27047.length c27049), (4, .pointer (some ⟨b13639, 0, none⟩)), (6, iv v24962), (7, iv v26866)] ∧ Inv [] w0 w [(some b13619, blk [iv p0_0, .slice Ap0_1 lp0_1.length cp0_1] 24), (g27048, blk cl27050 3), (some b13639, blk [slv g27053 u27052.length c27054] 97), (g27053, blk cl27055 3)] ∧ (Row 1 g27048 (u27047.length) c27049 cl27050 (flat eInt u27047)) ∧ (Row 1 g27053 (u27052.length) c27054 cl27055 (flat eInt u27052)) ∧ F83j4 (F83l3 p0_0 lp0_1 N (F83l1 p0_0 lp0_1 N m1) v24962 m3) v26866 u27047 u27052 = some r) ?_ ?_)))
    ·
     refine wp_block ?_
     refine wp_seq (wp_cutO (fun ρ w => ∃ (g27094 : Option Nat) (c27095 : Nat) (cl27096 : List Value), Agree ρ [(1, .pointer (some ⟨b13619, 0, none⟩)), (3, slv g27094 u26856.length c27095), (4, .pointer (some ⟨b13639, 0, none⟩)), (6, iv v24962), (7, iv v26866), (47, .bool true)] ∧ Inv [] w0 w [(some b13619, blk [iv p0_0, .slice Ap0_1 lp0_1.length cp0_1] 24), (g27094, blk cl27096 3), (some b13639, blk [slv g26862 u26861.length c26863] 97), (g26862, blk cl26864 3)] ∧ (Row 1 g27094 (u26856.length) c27095 cl27096 (flat eInt u26856)) ∧ F83j5 (F83l3 p0_0 lp0_1 N (F83l1 p0_0 lp0_1 N m1) v24962 m3) u26856 u26861 v26866 = some r) ?_ ?_)
     ·
      refine rgn (by kernel_rfl) (pu (.pointer (some ⟨b13619, 1, none⟩)) (by kernel_rfl) (seq_c (s_load1 hI 0 (.slice Ap0_1 lp0_1.length cp0_1) Try.isAgg22 rfl rfl rfl ?_)))
      refine pu (iv v26866) (by kernel_rfl) (gdE hF (fun h2444 hF => ?_))
      refine bindE hF (fun x27098 hx27099 hF => ?_)
      obtain ⟨b27100, o27101, hA27102, hb27103, he27104⟩ := hCp0_1.at_ eCm_len (by decide) hx27099
      refine seq_c (s_indexA (v26866).toNat Try.underlying22 Try.sizeOf26 rfl hA27102 rfl (Int.toNat_of_nonneg h2444).symm (lt_n hx27099 rfl) ?_)
      refine pu (.pointer (some ⟨b27100, o27101 + (v26866).toNat * 3 + 2, none⟩)) (by kernel_rfl) (seq_c (s_loadB1 hI (iv x27098.wants) Try.isAgg3 rfl hb27103 (by simp) (he27104 2 _ rfl) ?_))
      refine pu (iv v24962) (by kernel_rfl) (ifE hF (fun h2445 hF => ?_) (fun h2445 hF => ?_))
      ·
       refine seq_c (s_lss rfl rfl (fun _ => ?_) (fun h => absurd (a := x27098.wants < v24962) h2445 h))
       refine pu (.bool true) (by kernel_rfl) (of_ (by kernel_rfl) (of_ (by kernel_rfl) (of_ (by kernel_rfl) (of_ (by kernel_rfl) (of_ (by kernel_rfl) (of_ (by kernel_rfl) (of_ (by kernel_rfl) (pu (.bool true) (by kernel_rfl) (seq_nil ?_)))))))))
       exact .inl ⟨rfl, ⟨g26857, c26858, cl26859, ⟨rfl, rfl, rfl, rfl, rfl, rfl, trivial⟩, hI.pickL [0, 1, 2, 3] (by decide) rfl, (r26860.to rfl rfl), hF⟩⟩
      ·
       refine seq_c (s_lss rfl rfl (fun h => absurd (a := x27098.wants < v24962) h h2445) (fun _ => ?_))
       refine pu (.bool false) (by kernel_rfl) (puo (slv g26857 u26856.length c26858) ⟨(by kernel_rfl), (by kernel_rfl)⟩ (puo (iv v26866) ⟨(by kernel_rfl), (by kernel_rfl)⟩ (bindE hF (fun x27105 hx27106 hF => ?_))))
       obtain ⟨b27107, rfl, he27108⟩ := r26860.at_ eInt_len (by decide) hx27106
       refine seq_on (by kernel_rfl) (s_indexR (v26866).toNat Try.underlying49 Try.sizeOf3 rfl rfl (Int.toNat_of_nonneg h2444).symm (lt_n hx27106 rfl) ?_)
       refine seq_on (by kernel_rfl) (s_loadR1 hI 1 (iv x27105) Try.isAgg3 rfl rfl (he27108 0 _ rfl) ?_)
       refine puo (iv v24962) ⟨(by kernel_rfl), (by kernel_rfl)⟩ (ckE hF (fun h2446 hF => ?_))
       refine seq_on (by kernel_rfl) (s_sub rfl rfl h2446 ?_)
       refine ifE hF (fun h2447 hF => ?_) (fun h2447 hF => ?_)
       ·
        refine seq_on (by kernel_rfl) (s_neq rfl rfl (fun h => absurd (a := x27105 = (v24962 - 1)) h2447 h) (fun _ => ?_))
        refine pu (.bool false) (by kernel_rfl) (seq_nil (.inr ?_))
        refine wp_condF rfl (wp_skip (wp_cutO (fun ρ w => (∃ (b27168 : Nat), Agree ρ [(1, .pointer (some ⟨b13619, 0, none⟩)), (3, slv (some b27107) u26856.length c26858), (4, .pointer (some ⟨b13639, 0, none⟩)), (6, iv v24962), (7, iv v26866), (8, .pointer (some ⟨b27168, 0, none⟩)), (9, .bool false)] ∧ Inv [] w0 w [(some b13619, blk [iv p0_0, .slice Ap0_1 lp0_1.length cp0_1] 24), (some b27107, blk cl26859 3), (some b13639, blk [slv g26862 u26861.length c26863] 97), (g26862, blk cl26864 3), (some b27168, blk [slv g26862 u26861.length c26863] 97)] ∧ F83j6 (F83l3 p0_0 lp0_1 N (F83l1 p0_0 lp0_1 N m1) v24962 m3) u26856 u26861 v26866 = some r) ∨ (∃ (b27169 : Nat) (g27171 : Option Nat) (c27172 : Nat) (cl27173 : List Value) (u27170 : List Int), Agree ρ [(1, .pointer (some ⟨b13619, 0, none⟩)), (3, slv (some b27107) u26856.length c26858), (4, .pointer (some ⟨b13639, 0, none⟩)), (6, iv v24962), (7, iv v26866), (8, .pointer (some ⟨b27169, 0, none⟩)), (9, .bool true)] ∧ Inv [] w0 w [(some b13619, blk [iv p0_0, .slice Ap0_1 lp0_1.length cp0_1] 24), (some b27107, blk cl26859 3), (some b13639, blk [slv g26862 u26861.length c26863] 97), (g26862, blk cl26864 3), (some b27169, blk [slv g27171 u27170.length c27172] 97), (g27171, blk cl27173 3)] ∧ (Row 1 g27171 (u27170.length) c27172 cl27173 (flat eInt u27170)) ∧ F83j7 (F83l3 p0_0 lp0_1 N (F83l1 p0_0 lp0_1 N m1) v24962 m3) u26856 v26866 x27105 u27170 = some r)) ?_ ?_))
        ·
         refine bindSE hF (fun y27181 hy27182 hF => ?_) (fun y27183 hy27184 hF => ?_)
         ·
          refine wp_drawn2 hI [0, 1, 2, 3] (by decide) rfl (by kernel_rfl) (by kernel_rfl) ?_
          intro hsub
          refine al_light 0 (.agg #[iv p0_0, .slice Ap0_1 lp0_1.length cp0_1]) hsub rfl (by kernel_rfl) (fun w hI => s_loadK hI 0 2 [iv p0_0, .slice Ap0_1 lp0_1.length cp0_1] Try.isAgg24 Try.sizeOf24 rfl rfl rfl rfl ⟨rfl, Below.refl _ _⟩) ?_
          refine al_light 1 (.agg #[slv g26862 u26861.length c26863]) hsub rfl (by kernel_rfl) (fun w hI => s_loadK hI 2 1 [slv g26862 u26861.length c26863] Try.isAgg97 Try.sizeOf97 rfl rfl rfl rfl ⟨rfl, Below.refl _ _⟩) ?_
          refine alp 2 (iv v26866) hsub rfl (by kernel_rfl) (fun _ => (by kernel_rfl)) ?_
          refine any_heavy [3, 8] (by kernel_rfl) rfl (each2 ?_ ?_)
          ·intro w hI
           refine ol_c rfl (s_makeRowN hI (enc := eBool) eBool_len (by decide) (false) Try.underlying114 (z := .bool false) (k := 1) (bytes := 1) (by kernel_rfl) rfl 24 rfl rfl (by omega) (by decide) ?_)
           intro b27188 cl27189 w hI r27190
           refine ⟨_, hI, subk (fun _ h => h.pickL [1, 2, 3, 4] (by decide) rfl) ?_⟩
           intro hsub
           refine any_heavy [4, 8] (by kernel_rfl) rfl (each2 ?_ ?_)
           ·intro w hI
            refine ol_c rfl (s_call 106 [.agg #[iv p0_0, .slice Ap0_1 lp0_1.length cp0_1], .agg #[slv g26862 u26861.length c26863], iv v26866, slv (some b27188) ((List.replicate 24 false).length) 24] (by kernel_rfl) (L106 N _ b27188 p0_0 Ap0_1 cp0_1 lp0_1 (g26862.map fun b => ⟨b, 0, none⟩) c26863 u26861 v26866 ((List.replicate 24 false).length) 24 cl27189 (List.replicate 24 false) (hI.lend [0] (by decide) rfl rfl) (hI.apartL0 [0] rfl rfl hCp0_1) hMp0_1 hKp0_1 (hI.apartRowL [0] rfl rfl (i := 4) (by decide) rfl r26865) (len_le rfl r26865.big) (len_le rfl r26865.cap) r27190 _ hy27182) ?_)
            rintro v w ⟨cl27191, hv, hN, r27192⟩
            subst hv
            have hI := hI.backsL [0] [1, 2, 3, 4] (by decide) rfl rfl rfl hN; clear hN
            have hq : (List.replicate 24 false).length = y27181.length := r27192.n_eq eBool_len (by decide)
            rw [hq] at r27192; clear hq
            refine ⟨_, hI, subk (fun _ h => h.pickL [1, 2, 3, 4] (by decide) rfl) ?_⟩
            intro hsub
            refine alp 5 (.tuple #[.agg #[slv g26862 u26861.length c26863], .bool false]) hsub rfl (by kernel_rfl) (fun _ => (by kernel_rfl)) ?_
            refine alp 6 (.agg #[slv g26862 u26861.length c26863]) hsub rfl (by kernel_rfl) (fun _ => (by kernel_rfl)) ?_
            refine alp 7 (.bool false) hsub rfl (by kernel_rfl) (fun _ => (by kernel_rfl)) ?_
            refine any_heavy [8] (by kernel_rfl) rfl (each1 ?_)
            intro w hI
            refine ol_c rfl (s_allocI hI [.slice none 0 0] Try.zeroValue97 rfl ?_)
            intro b27193 w hI
            refine ⟨_, hI, subk (fun _ h => h.pickL [2, 3, 4, 5] (by decide) rfl) ?_⟩
            intro hsub
            refine any_heavy [9] (by kernel_rfl) rfl (each1 ?_)
            intro w hI
            refine ol_c rfl (s_store hI 0 1 [slv g26862 u26861.length c26863] Try.sizeOf97 rfl rfl rfl rfl rfl (Nat.le_of_ble_eq_true rfl) ?_)
            intro w hI
            refine ⟨_, hI, subk (fun _ h => h.pickL [2, 3, 4, 5] (by decide) rfl) ?_⟩
            intro hsub
            refine alp 10 (.bool false) hsub rfl (by kernel_rfl) (fun _ => (by kernel_rfl)) ?_
            refine any_end (by kernel_rfl) (fun w hI => ?_)
            exact .inl ⟨rfl, .inl ⟨b27193, ⟨rfl, rfl, rfl, rfl, rfl, rfl, rfl, trivial⟩, hI.pickL [2, 3, 4, 5, 0] (by decide) rfl, hF⟩⟩
           ·intro w hI
            refine ol_c rfl (s_allocI hI [.slice none 0 0] Try.zeroValue97 rfl ?_)
            intro b27194 w hI
            refine ⟨_, hI, subk (fun _ h => h.pickL [2, 3, 4, 5] (by decide) rfl) ?_⟩
            intro hsub
            refine any_heavy [4] (by kernel_rfl) rfl (each1 ?_)
            intro w hI
            refine ol_c rfl (s_call 106 [.agg #[iv p0_0, .slice Ap0_1 lp0_1.length cp0_1], .agg #[slv g26862 u26861.length c26863], iv v26866, slv (some b27188) ((List.replicate 24 false).length) 24] (by kernel_rfl) (L106 N _ b27188 p0_0 Ap0_1 cp0_1 lp0_1 (g26862.map fun b => ⟨b, 0, none⟩) c26863 u26861 v26866 ((List.replicate 24 false).length) 24 cl27189 (List.replicate 24 false) (hI.lend [1] (by decide) rfl rfl) (hI.apartL0 [1] rfl rfl hCp0_1) hMp0_1 hKp0_1 (hI.apartRowL [1] rfl rfl (i := 5) (by decide) rfl r26865) (len_le rfl r26865.big) (len_le rfl r26865.cap) r27190 _ hy27182) ?_)
            rintro v w ⟨cl27195, hv, hN, r27196⟩
            subst hv
            have hI := hI.backsL [1] [0, 2, 3, 4, 5] (by decide) rfl rfl rfl hN; clear hN
            have hq : (List.replicate 24 false).length = y27181.length := r27196.n_eq eBool_len (by decide)
            rw [hq] at r27196; clear hq
            refine ⟨_, hI, subk (fun _ h => h.pickL [2, 3, 4, 5] (by decide) rfl) ?_⟩
            intro hsub
            refine alp 5 (.tuple #[.agg #[slv g26862 u26861.length c26863], .bool false]) hsub rfl (by kernel_rfl) (fun _ => (by kernel_rfl)) ?_
            refine alp 6 (.agg #[slv g26862 u26861.length c26863]) hsub rfl (by kernel_rfl) (fun _ => (by kernel_rfl)) ?_
            refine alp 7 (.bool false) hsub rfl (by kernel_rfl) (fun _ => (by kernel_rfl)) ?_
            refine any_heavy [9] (by kernel_rfl) rfl (each1 ?_)
            intro w hI
            refine ol_c rfl (s_store hI 1 1 [slv g26862 u26861.length c26863] Try.sizeOf97 rfl rfl rfl rfl rfl (Nat.le_of_ble_eq_true rfl) ?_)
            intro w hI
            refine ⟨_, hI, subk (fun _ h => h.pickL [2, 3, 4, 5] (by decide) rfl) ?_⟩
            intro hsub
            refine alp 10 (.bool false) hsub rfl (by kernel_rfl) (fun _ => (by kernel_rfl)) ?_
            refine any_end (by kernel_rfl) (fun w hI => ?_)
            exact .inl ⟨rfl, .inl ⟨b27194, ⟨rfl, rfl, rfl, rfl, rfl, rfl, rfl, trivial⟩, hI.pickL [2, 3, 4, 5, 1] (by decide) rfl, hF⟩⟩
          ·intro w hI
           refine ol_c rfl (s_allocI hI [.slice none 0 0] Try.zeroValue97 rfl ?_)
           intro b27197 w hI
           refine ⟨_, hI, subk (fun _ h => h.pickL [1, 2, 3, 4] (by decide) rfl) ?_⟩
           intro hsub
           refine any_heavy [3] (by kernel_rfl) rfl (each1 ?_)
           intro w hI
           refine ol_c rfl (s_makeRowN hI (enc := eBool) eBool_len (by decide) (false) Try.underlying114 (z := .bool false) (k := 1) (bytes := 1) (by kernel_rfl) rfl 24 rfl rfl (by omega) (by decide) ?_)
           intro b27198 cl27199 w hI r27200
           refine ⟨_, hI, subk (fun _ h => h.pickL [2, 3, 4, 5] (by decide) rfl) ?_⟩
           intro hsub
           refine any_heavy [4] (by kernel_rfl) rfl (each1 ?_)
           intro w hI
           refine ol_c rfl (s_call 106 [.agg #[iv p0_0, .slice Ap0_1 lp0_1.length cp0_1], .agg #[slv g26862 u26861.length c26863], iv v26866, slv (some b27198) ((List.replicate 24 false).length) 24] (by kernel_rfl) (L106 N _ b27198 p0_0 Ap0_1 cp0_1 lp0_1 (g26862.map fun b => ⟨b, 0, none⟩) c26863 u26861 v26866 ((List.replicate 24 false).length) 24 cl27199 (List.replicate 24 false) (hI.lend [0] (by decide) rfl rfl) (hI.apartL0 [0] rfl rfl hCp0_1) hMp0_1 hKp0_1 (hI.apartRowL [0] rfl rfl (i := 5) (by decide) rfl r26865) (len_le rfl r26865.big) (len_le rfl r26865.cap) r27200 _ hy27182) ?_)
           rintro v w ⟨cl27201, hv, hN, r27202⟩
           subst hv
           have hI := hI.backsL [0] [1, 2, 3, 4, 5] (by decide) rfl rfl rfl hN; clear hN
           have hq : (List.replicate 24 false).length = y27181.length := r27202.n_eq eBool_len (by decide)
           rw [hq] at r27202; clear hq
           refine ⟨_, hI, subk (fun _ h => h.pickL [2, 3, 4, 5] (by decide) rfl) ?_⟩
           intro hsub
           refine alp 5 (.tuple #[.agg #[slv g26862 u26861.length c26863], .bool false]) hsub rfl (by kernel_rfl) (fun _ => (by kernel_rfl)) ?_
           refine alp 6 (.agg #[slv g26862 u26861.length c26863]) hsub rfl (by kernel_rfl) (fun _ => (by kernel_rfl)) ?_
           refine alp 7 (.bool false) hsub rfl (by kernel_rfl) (fun _ => (by kernel_rfl)) ?_
           refine any_heavy [9] (by kernel_rfl) rfl (each1 ?_)
           intro w hI
           refine ol_c rfl (s_store hI 1 1 [slv g26862 u26861.length c26863] Try.sizeOf97 rfl rfl rfl rfl rfl (Nat.le_of_ble_eq_true rfl) ?_)
           intro w hI
           refine ⟨_, hI, subk (fun _ h => h.pickL [2, 3, 4, 5] (by decide) rfl) ?_⟩
           intro hsub
           refine alp 10 (.bool false) hsub rfl (by kernel_rfl) (fun _ => (by kernel_rfl)) ?_
           refine any_end (by kernel_rfl) (fun w hI => ?_)
           exact .inl ⟨rfl, .inl ⟨b27197, ⟨rfl, rfl, rfl, rfl, rfl, rfl, rfl, trivial⟩, hI.pickL [2, 3, 4, 5, 1] (by decide) rfl, hF⟩⟩
         ·
          refine wp_drawn2 hI [0, 1, 2, 3] (by decide) rfl (by kernel_rfl) (by kernel_rfl) ?_
          intro hsub
          refine al_light 0 (.agg #[iv p0_0, .slice Ap0_1 lp0_1.length cp0_1]) hsub rfl (by kernel_rfl) (fun w hI => s_loadK hI 0 2 [iv p0_0, .slice Ap0_1 lp0_1.length cp0_1] Try.isAgg24 Try.sizeOf24 rfl rfl rfl rfl ⟨rfl, Below.refl _ _⟩) ?_
          refine al_light 1 (.agg #[slv g26862 u26861.length c26863]) hsub rfl (by kernel_rfl) (fun w hI => s_loadK hI 2 1 [slv g26862 u26861.length c26863] Try.isAgg97 Try.sizeOf97 rfl rfl rfl rfl ⟨rfl, Below.refl _ _⟩) ?_
          refine alp 2 (iv v26866) hsub rfl (by kernel_rfl) (fun _ => (by kernel_rfl)) ?_
          refine any_heavy [3, 8] (by kernel_rfl) rfl (each2 ?_ ?_)
          ·intro w hI
           refine ol_c rfl (s_makeRowN hI (enc := eBool) eBool_len (by decide) (false) Try.underlying114 (z := .bool false) (k := 1) (bytes := 1) (by kernel_rfl) rfl 24 rfl rfl (by omega) (by decide) ?_)
           intro b27210 cl27211 w hI r27212
           refine ⟨_, hI, subk (fun _ h => h.pickL [1, 2, 3, 4] (by decide) rfl) ?_⟩
           intro hsub
           refine any_heavy [4, 8] (by kernel_rfl) rfl (each2 ?_ ?_)
           ·intro w hI
            refine ol_c rfl (s_call 106 [.agg #[iv p0_0, .slice Ap0_1 lp0_1.length cp0_1], .agg #[slv g26862 u26861.length c26863], iv v26866, slv (some b27210) ((List.replicate 24 false).length) 24] (by kernel_rfl) (L106 N _ b27210 p0_0 Ap0_1 cp0_1 lp0_1 (g26862.map fun b => ⟨b, 0, none⟩) c26863 u26861 v26866 ((List.replicate 24 false).length) 24 cl27211 (List.replicate 24 false) (hI.lend [0] (by decide) rfl rfl) (hI.apartL0 [0] rfl rfl hCp0_1) hMp0_1 hKp0_1 (hI.apartRowL [0] rfl rfl (i := 4) (by decide) rfl r26865) (len_le rfl r26865.big) (len_le rfl r26865.cap) r27212 _ hy27184) ?_)
            rintro v w ⟨g27214, c27215, cl27216, cl27213, hv, hN, r27218, r27217⟩
            subst hv
            have hI := hI.backsL [0] [1, 2, 3, 4] (by decide) rfl rfl rfl hN; clear hN
            have hq : (List.replicate 24 false).length = y27183.2.length := r27217.n_eq eBool_len (by decide)
            rw [hq] at r27217; clear hq
            refine ⟨_, hI, subk (fun _ h => h.pickL [2, 3, 4, 5] (by decide) rfl) ?_⟩
            intro hsub
            refine alp 5 (.tuple #[.agg #[slv g27214 y27183.1.length c27215], .bool true]) hsub rfl (by kernel_rfl) (fun _ => (by kernel_rfl)) ?_
            refine alp 6 (.agg #[slv g27214 y27183.1.length c27215]) hsub rfl (by kernel_rfl) (fun _ => (by kernel_rfl)) ?_
            refine alp 7 (.bool true) hsub rfl (by kernel_rfl) (fun _ => (by kernel_rfl)) ?_
            refine any_heavy [8] (by kernel_rfl) rfl (each1 ?_)
            intro w hI
            refine ol_c rfl (s_allocI hI [.slice none 0 0] Try.zeroValue97 rfl ?_)
            intro b27219 w hI
            refine ⟨_, hI, subk (fun _ h => h.pickL [3, 4, 5, 6] (by decide) rfl) ?_⟩
            intro hsub
            refine any_heavy [9] (by kernel_rfl) rfl (each1 ?_)
            intro w hI
            refine ol_c rfl (s_store hI 0 1 [slv g27214 y27183.1.length c27215] Try.sizeOf97 rfl rfl rfl rfl rfl (Nat.le_of_ble_eq_true rfl) ?_)
            intro w hI
            refine ⟨_, hI, subk (fun _ h => h.pickL [3, 4, 5, 6] (by decide) rfl) ?_⟩
            intro hsub
            refine alp 10 (.bool true) hsub rfl (by kernel_rfl) (fun _ => (by kernel_rfl)) ?_
            refine any_end (by kernel_rfl) (fun w hI => ?_)
            exact .inl ⟨rfl, .inr ⟨b27219, g27214, c27215, cl27216, y27183.1, ⟨rfl, rfl, rfl, rfl, rfl, rfl, rfl, trivial⟩, hI.pickL [3, 4, 5, 6, 0, 1] (by decide) rfl, (r27218.to rfl rfl), hF⟩⟩
           ·intro w hI
            refine ol_c rfl (s_allocI hI [.slice none 0 0] Try.zeroValue97 rfl ?_)
            intro b27220 w hI
            refine ⟨_, hI, subk (fun _ h => h.pickL [2, 3, 4, 5] (by decide) rfl) ?_⟩
            intro hsub
            refine any_heavy [4] (by kernel_rfl) rfl (each1 ?_)
            intro w hI
            refine ol_c rfl (s_call 106 [.agg #[iv p0_0, .slice Ap0_1 lp0_1.length cp0_1], .agg #[slv g26862 u26861.length c26863], iv v26866, slv (some b27210) ((List.replicate 24 false).length) 24] (by kernel_rfl) (L106 N _ b27210 p0_0 Ap0_1 cp0_1 lp0_1 (g26862.map fun b => ⟨b, 0, none⟩) c26863 u26861 v26866 ((List.replicate 24 false).length) 24 cl27211 (List.replicate 24 false) (hI.lend [1] (by decide) rfl rfl) (hI.apartL0 [1] rfl rfl hCp0_1) hMp0_1 hKp0_1 (hI.apartRowL [1] rfl rfl (i := 5) (by decide) rfl r26865) (len_le rfl r26865.big) (len_le rfl r26865.cap) r27212 _ hy27184) ?_)
            rintro v w ⟨g27222, c27223, cl27224, cl27221, hv, hN, r27226, r27225⟩
            subst hv
            have hI := hI.backsL [1] [0, 2, 3, 4, 5] (by decide) rfl rfl rfl hN; clear hN
            have hq : (List.replicate 24 false).length = y27183.2.length := r27225.n_eq eBool_len (by decide)
            rw [hq] at r27225; clear hq
            refine ⟨_, hI, subk (fun _ h => h.pickL [3, 4, 5, 6] (by decide) rfl) ?_⟩
            intro hsub
            refine alp 5 (.tuple #[.agg #[slv g27222 y27183.1.length c27223], .bool true]) hsub rfl (by kernel_rfl) (fun _ => (by kernel_rfl)) ?_
            refine alp 6 (.agg #[slv g27222 y27183.1.length c27223]) hsub rfl (by kernel_rfl) (fun _ => (by kernel_rfl)) ?_
            refine alp 7 (.bool true) hsub rfl (by kernel_rfl) (fun _ => (by kernel_rfl)) ?_
            refine any_heavy [9] (by kernel_rfl) rfl (each1 ?_)
            intro w hI
            refine ol_c rfl (s_store hI 2 1 [slv g27222 y27183.1.length c27223] Try.sizeOf97 rfl rfl rfl rfl rfl (Nat.le_of_ble_eq_true rfl) ?_)
            intro w hI
            refine ⟨_, hI, subk (fun _ h => h.pickL [3, 4, 5, 6] (by decide) rfl) ?_⟩
            intro hsub
            refine alp 10 (.bool true) hsub rfl (by kernel_rfl) (fun _ => (by kernel_rfl)) ?_
            refine any_end (by kernel_rfl) (fun w hI => ?_)
            exact .inl ⟨rfl, .inr ⟨b27220, g27222, c27223, cl27224, y27183.1, ⟨rfl, rfl, rfl, rfl, rfl, rfl, rfl, trivial⟩, hI.pickL [3, 4, 5, 6, 2, 0] (by decide) rfl, (r27226.to rfl rfl), hF⟩⟩
          ·intro w hI
           refine ol_c rfl (s_allocI hI [.slice none 0 0] Try.zeroValue97 rfl ?_)
           intro b27227 w hI
           refine ⟨_, hI, subk (fun _ h => h.pickL [1, 2, 3, 4] (by decide) rfl) ?_⟩
           intro hsub
           refine any_heavy [3] (by kernel_rfl) rfl (each1 ?_)
           intro w hI
           refine ol_c rfl (s_makeRowN hI (enc := eBool) eBool_len (by decide) (false) Try.underlying114 (z := .bool false) (k := 1) (bytes := 1) (by kernel_rfl) rfl 24 rfl rfl (by omega) (by decide) ?_)
           intro b27228 cl27229 w hI r27230
           refine ⟨_, hI, subk (fun _ h => h.pickL [2, 3, 4, 5] (by decide) rfl) ?_⟩
           intro hsub
           refine any_heavy [4] (by kernel_rfl) rfl (each1 ?_)
           intro w hI
           refine ol_c rfl (s_call 106 [.agg #[iv p0_0, .slice Ap0_1 lp0_1.length cp0_1], .agg #[slv g26862 u26861.length c26863], iv v26866, slv (some b27228) ((List.replicate 24 false).length) 24] (by kernel_rfl) (L106 N _ b27228 p0_0 Ap0_1 cp0_1 lp0_1 (g26862.map fun b => ⟨b, 0, none⟩) c26863 u26861 v26866 ((List.replicate 24 false).length) 24 cl27229 (List.replicate 24 false) (hI.lend [0] (by decide) rfl rfl) (hI.apartL0 [0] rfl rfl hCp0_1) hMp0_1 hKp0_1 (hI.apartRowL [0] rfl rfl (i := 5) (by decide) rfl r26865) (len_le rfl r26865.big) (len_le rfl r26865.cap) r27230 _ hy27184) ?_)
           rintro v w ⟨g27232, c27233, cl27234, cl27231, hv, hN, r27236, r27235⟩
           subst hv
           have hI := hI.backsL [0] [1, 2, 3, 4, 5] (by decide) rfl rfl rfl hN; clear hN
           have hq : (List.replicate 24 false).length = y27183.2.length := r27235.n_eq eBool_len (by decide)
           rw [hq] at r27235; clear hq
           refine ⟨_, hI, subk (fun _ h => h.pickL [3, 4, 5, 6] (by decide) rfl) ?_⟩
           intro hsub
           refine alp 5 (.tuple #[.agg #[slv g27232 y27183.1.length c27233], .bool true]) hsub rfl (by kernel_rfl) (fun _ => (by kernel_rfl)) ?_
           refine alp 6 (.agg #[slv g27232 y27183.1.length c27233]) hsub rfl (by kernel_rfl) (fun _ => (by kernel_rfl)) ?_
           refine alp 7 (.bool true) hsub rfl (by kernel_rfl) (fun _ => (by kernel_rfl)) ?_
           refine any_heavy [9] (by kernel_rfl) rfl (each1 ?_)
           intro w hI
           refine ol_c rfl (s_store hI 2 1 [slv g27232 y27183.1.length c27233] Try.sizeOf97 rfl rfl rfl rfl rfl (Nat.le_of_ble_eq_true rfl) ?_)
           intro w hI
           refine ⟨_, hI, subk (fun _ h => h.pickL [3, 4, 5, 6] (by decide) rfl) ?_⟩
           intro hsub
           refine alp 10 (.bool true) hsub rfl (by kernel_rfl) (fun _ => (by kernel_rfl)) ?_
           refine any_end (by kernel_rfl) (fun w hI => ?_)
           exact .inl ⟨rfl, .inr ⟨b27227, g27232, c27233, cl27234, y27183.1, ⟨rfl, rfl, rfl, rfl, rfl, rfl, rfl, trivial⟩, hI.pickL [3, 4, 5, 6, 2, 0] (by decide) rfl, (r27236.to rfl rfl), hF⟩⟩
        ·rintro ρ w (hJ | hJ)
         ·
          obtain ⟨b27168, hag, hI, hF⟩ := hJ
          obtain ⟨ρ, rfl⟩ := hag.form; clear hag
          unfold F83j6 at hF
          refine wp_seq (rgn (by kernel_rfl) (pu (.bool false) (by kernel_rfl) (seq_nil (wp_condF rfl (wp_skip ?_)))))
          exact .inl ⟨rfl, ⟨some b27107, c26858, cl26859, g26862, c26863, cl26864, u26856, u26861, ⟨rfl, rfl, rfl, rfl, rfl, trivial⟩, hI.pickL [0, 1, 2, 3] (by decide) rfl, (r26860.to rfl rfl), (r26865.to rfl rfl), hF⟩⟩
         ·
          obtain ⟨b27169, g27171, c27172, cl27173, u27170, hag, hI, r27174, hF⟩ := hJ
          obtain ⟨ρ, rfl⟩ := hag.form; clear hag
          unfold F83j7 at hF
          refine wp_seq (rgn (by kernel_rfl) (pu (.bool true) (by kernel_rfl) (seq_nil (wp_condT rfl (wp_seq (rgn (by kernel_rfl) (seq_c (s_loadK hI 4 1 [slv g27171 u27170.length c27172] Try.isAgg97 Try.sizeOf97 rfl rfl rfl rfl ?_))))))))
          refine seq_c (s_store hI 2 1 [slv g27171 u27170.length c27172] Try.sizeOf97 rfl rfl rfl rfl rfl (Nat.le_of_ble_eq_true rfl) ?_)
          intro w hI
          refine seq_nil (rgn (by kernel_rfl) (pu (slv (some b27107) u26856.length c26858) (by kernel_rfl) (pu (iv v26866) (by kernel_rfl) ?_)))
          have he27175 := r26860.atS eInt_len (by decide) hx27106
          refine seq_c (s_indexR (v26866).toNat Try.underlying49 Try.sizeOf3 rfl rfl (Int.toNat_of_nonneg h2444).symm (lt_n hx27106 rfl) ?_)
          refine seq_c (s_loadR1 hI 1 (iv x27105) Try.isAgg3 rfl rfl (he27175 0 _ rfl) ?_)
          refine ckE hF (fun h2448 hF => ?_)
          refine seq_c (s_add rfl rfl h2448 ?_)
          refine seq_c (s_indexR (v26866).toNat Try.underlying49 Try.sizeOf3 rfl rfl (Int.toNat_of_nonneg h2444).symm (lt_n hx27106 rfl) ?_)
          have := lt_n hx27106 rfl
          refine seq_c (s_store hI 1 1 [iv (x27105 + 1)] Try.sizeOf3 rfl rfl rfl rfl rfl (r26860.room (by omega)) ?_)
          intro w hI
          have r27176 := r26860.put eInt_len (by decide) (v26866).toNat (x27105 + 1) (by omega)
          obtain ⟨cl27177, hcl⟩ : ∃ z, z = putCells cl26859 ((v26866).toNat * 1) (eInt (x27105 + 1)) := ⟨_, rfl⟩
          rw [← hcl] at r27176
          have hI : Inv [] w0 w [(some b13619, blk [iv p0_0, .slice Ap0_1 lp0_1.length cp0_1] 24), (some b27107, blk cl27177 3), (some b13639, blk [slv g27171 u27170.length c27172] 97), (g26862, blk cl26864 3), (some b27169, blk [slv g27171 u27170.length c27172] 97), (g27171, blk cl27173 3)] := by rw [hcl]; exact hI
          clear hcl
          refine seq_nil ?_
          exact .inl ⟨rfl, ⟨some b27107, c26858, cl27177, g27171, c27172, cl27173, (u26856).set (v26866).toNat (x27105 + 1), u27170, ⟨rfl, (slv_n (set_len rfl)), rfl, rfl, rfl, trivial⟩, hI.pickL [0, 1, 2, 5] (by decide) rfl, (r27176.to rfl (set_len rfl)), (r27174.to rfl rfl), hF⟩⟩
       ·
        refine seq_on (by kernel_rfl) (s_neq rfl rfl (fun _ => ?_) (fun h => absurd (a := x27105 = (v24962 - 1)) h h2447))
        refine pu (.bool true) (by kernel_rfl) (seq_nil ?_)
        exact .inl ⟨rfl, ⟨some b27107, c26858, cl26859, ⟨rfl, rfl, rfl, rfl, rfl, rfl, trivial⟩, hI.pickL [0, 1, 2, 3] (by decide) rfl, (r26860.to rfl rfl), hF⟩⟩
     ·intro ρ w hJ
      obtain ⟨g27094, c27095, cl27096, hag, hI, r27097, hF⟩ := hJ
      obtain ⟨ρ, rfl⟩ := hag.form; clear hag
      unfold F83j5 at hF
      refine wp_condT rfl (wp_exit ?_)
      exact .inl ⟨rfl, ⟨g27094, c27095, cl27096, g26862, c26863, cl26864, u26856, u26861, ⟨rfl, rfl, rfl, rfl, rfl, trivial⟩, hI.pickL [0, 1, 2, 3] (by decide) rfl, (r27097.to rfl rfl), (r26865.to rfl rfl), hF⟩⟩
    ·intro ρ w hJ
     obtain ⟨g27048, c27049, cl27050, g27053, c27054, cl27055, u27047, u27052, hag, hI, r27051, r27056, hF⟩ := hJ
     obtain ⟨ρ, rfl⟩ := hag.form; clear hag
     unfold F83j4 at hF
     refine rgn (by kernel_rfl) (pu (iv v26866) (by kernel_rfl) (ckE hF (fun h2431 hF => ?_)))
     refine seq_c (s_add rfl rfl h2431 ?_)
     refine pu (iv (v26866 + 1)) (by kernel_rfl) (seq_nil ?_)
     exact ⟨rfl, m3, Nat.lt_succ_self _, ⟨g27048, c27049, cl27050, g27053, c27054, cl27055, u27047, u27052, v26866 + 1, m3, ⟨rfl, rfl, rfl, rfl, rfl, trivial⟩, hI.pickL [0, 1, 2, 3] (by decide) rfl, (r27051.to rfl rfl), (r27056.to rfl rfl), hF, rfl⟩⟩
   ·
    refine seq_c (s_lss rfl rfl (fun h => absurd (a := v26866 < (lp0_1.length : Int)) h h2413) (fun _ => ?_))
    refine seq_nil (wp_condF rfl (wp_exit ?_))
    exact .inl ⟨rfl, ⟨g26857, c26858, cl26859, g26862, c26863, cl26864, u26856, u26861, ⟨rfl, rfl, rfl, rfl, trivial⟩, hI.pickL [0, 1, 2, 3] (by decide) rfl, (r26860.to rfl rfl), (r26865.to rfl rfl), hF⟩⟩
  ·intro ρ w hJ
   obtain ⟨g26096, c26097, cl26098, g26101, c26102, cl26103, u26095, u26100, hag, hI, r26099, r26104, hF⟩ := hJ
   obtain ⟨ρ, rfl⟩ := hag.form; clear hag
   unfold F83j2 at hF
   refine rgn (by kernel_rfl) (pu (iv v24962) (by kernel_rfl) (ckE hF (fun h2340 hF => ?_)))
   refine seq_c (s_add rfl rfl h2340 ?_)
   refine pu (iv (v24962 + 1)) (by kernel_rfl) (seq_nil ?_)
   exact ⟨rfl, m1, Nat.lt_succ_self _, ⟨g26096, c26097, cl26098, g26101, c26102, cl26103, u26095, u26100, v24962 + 1, m1, ⟨rfl, rfl, rfl, rfl, trivial⟩, hI.pickL [0, 1, 2, 3] (by decide) rfl, (r26099.to rfl rfl), (r26104.to rfl rfl), hF, rfl⟩⟩
 ·
  refine seq_c (s_leq rfl rfl (fun h => absurd (a := v24962 ≤ 24) h h2231) (fun _ => ?_))
  refine seq_nil (wp_condF rfl (wp_exit ?_))
  refine wp_seq (rgn (by kernel_rfl) (pu (slv g24953 u24952.length c24954) (by kernel_rfl) (pu (slv g24953 u24952.length c24954) (by kernel_rfl) (seq_nil (wp_ret ?_)))))
  replace hF := Option.some.inj hF; subst hF
  exact ⟨slv g24953 u24952.length c24954, Ret.r1 rfl rfl, ⟨g24953, c24954, cl24955, rfl, hI.pickL [1] (by decide) rfl, r24956.to rfl rfl⟩⟩


theorem L39 (w0 : World) (p0_0 : Int) (Ap0_1 : Option Addr) (cp0_1 : Nat) (lp0_1 : List Cm) (hCp0_1 : Cells w0 Ap0_1 (flat eCm lp0_1)) (hMp0_1 : lp0_1.length ≤ 9223372036854775807) (hKp0_1 : lp0_1.length ≤ cp0_1) (N : Nat) (r : (List Int × Int)) (hF : F39 N p0_0 lp0_1 = some r) : Does Try.prog 39 [.agg #[.int .i64 p0_0, .slice Ap0_1 lp0_1.length cp0_1]] w0 fun v w => ∃ (z0 : Option Nat) (z1 : Nat) (z2 : List Value), v = .tuple #[slv z0 r.1.length z1, .int .i64 r.2] ∧ Inv [] w0 w [(z0, blk z2 3)] ∧ Row 1 z0 r.1.length z1 z2 (flat eInt r.1) := by
 refine calls_of (n := 9) Try.func39 rfl Try.ntmps39 rfl ?_
 have hI := Inv.start w0
 unfold F39 at hF
 refine wp_seq (rgn (by kernel_rfl) (seq_c (s_boxI hI [iv p0_0, .slice Ap0_1 lp0_1.length cp0_1] rfl ?_)))
 intro b22 w hI
 refine pu (.slice none 0 0) (by kernel_rfl) (pu (iv 0) (by kernel_rfl) (seq_nil (wp_seq (wp_seq (rgn (by kernel_rfl) (seq_c (s_loadK hI 0 2 [iv p0_0, .slice Ap0_1 lp0_1.length cp0_1] Try.isAgg24 Try.sizeOf24 rfl rfl rfl rfl ?_)))))))
 refine bindE hF (fun y29 hy30 hF => ?_)
 refine seq_c (s_callv hI 24 [.agg #[iv p0_0, .slice Ap0_1 lp0_1.length cp0_1]] (iv y29) (by kernel_rfl) (L24 _ p0_0 Ap0_1 cp0_1 lp0_1 (hCp0_1.inv0 hI) hMp0_1 hKp0_1 N _ hy30) ?_)
 intro w hI
 refine ifE hF (fun h8 hF => ?_) (fun h8 hF => ?_)
 ·
  refine seq_c (s_neq rfl rfl (fun h => absurd (a := y29 = 0) h8 h) (fun _ => ?_))
  refine seq_nil (wp_condF rfl (wp_skip (wp_seq (rgn (by kernel_rfl) (seq_c (s_loadK hI 0 2 [iv p0_0, .slice Ap0_1 lp0_1.length cp0_1] Try.isAgg24 Try.sizeOf24 rfl rfl rfl rfl ?_))))))
  refine bindE hF (fun y37 hy38 hF => ?_)
  refine seq_c (s_call 83 [.agg #[iv p0_0, .slice Ap0_1 lp0_1.length cp0_1]] (by kernel_rfl) (L83 _ p0_0 Ap0_1 cp0_1 lp0_1 (hCp0_1.inv0 hI) hMp0_1 hKp0_1 N _ hy38) ?_)
  rintro v w ⟨g39, c40, cl41, rfl, hN, r42⟩
  have hI := hI.join hN; clear hN
  refine pu (slv g39 y37.length c40) (by kernel_rfl) (pu (iv 0) (by kernel_rfl) (seq_nil (wp_ret ?_)))
  replace hF := Option.some.inj hF; subst hF
  exact ⟨.tuple #[slv g39 y37.length c40, iv 0], Ret.r2 rfl rfl rfl, ⟨g39, c40, cl41, rfl, hI.pickL [0] (by decide) rfl, r42.to rfl rfl⟩⟩
 ·
  refine seq_c (s_neq rfl rfl (fun _ => ?_) (fun h => absurd (a := y29 = 0) h h8))
  refine seq_nil (wp_condT rfl (wp_seq (rgn (by kernel_rfl) (pu (.slice none 0 0) (by kernel_rfl) (pu (iv 52) (by kernel_rfl) (seq_nil (wp_ret ?_)))))))
  have hI := hI.nilRow 3
  replace hF := Option.some.inj hF; subst hF
  exact ⟨.tuple #[.slice none 0 0, iv 52], Ret.r2 rfl rfl rfl, ⟨none, 0, [], rfl, hI.pickL [0] (by decide) rfl, Row.nil_ 1⟩⟩


theorem L43 (w0 : World) (p0_0 : Int) (Ap0_1 : Option Addr) (cp0_1 : Nat) (lp0_1 : List Cm) (Ap1 : Option Addr) (cp1 : Nat) (lp1 : List Int) (hCp0_1 : Cells w0 Ap0_1 (flat eCm lp0_1)) (hMp0_1 : lp0_1.length ≤ 9223372036854775807) (hKp0_1 : lp0_1.length ≤ cp0_1) (hCp1 : Cells w0 Ap1 (flat eInt lp1)) (hMp1 : lp1.length ≤ 9223372036854775807) (hKp1 : lp1.length ≤ cp1) (N : Nat) (r : Int) (hF : F43 N p0_0 lp0_1 lp1 = some r) : Does Try.prog 43 [.agg #[.int .i64 p0_0, .slice Ap0_1 lp0_1.length cp0_1], .slice Ap1 lp1.length cp1] w0 fun v w => v = .int .i64 r ∧ Below w0.heap.size w0 w := by
 refine calls_of (n := 25) Try.func43 rfl Try.ntmps43 rfl ?_
 have hI := Inv.start w0
 unfold F43 at hF
 refine wp_seq (rgn (by kernel_rfl) (seq_c (s_boxI hI [iv p0_0, .slice Ap0_1 lp0_1.length cp0_1] rfl ?_)))
 intro b54 w hI
 refine pu (iv 0) (by kernel_rfl) (seq_nil (wp_seq (wp_seq (rgn (by kernel_rfl) (seq_c (s_loadK hI 0 2 [iv p0_0, .slice Ap0_1 lp0_1.length cp0_1] Try.isAgg24 Try.sizeOf24 rfl rfl rfl rfl ?_))))))
 refine bindE hF (fun y61 hy62 hF => ?_)
 refine seq_c (s_callv hI 24 [.agg #[iv p0_0, .slice Ap0_1 lp0_1.length cp0_1]] (iv y61) (by kernel_rfl) (L24 _ p0_0 Ap0_1 cp0_1 lp0_1 (hCp0_1.inv0 hI) hMp0_1 hKp0_1 N _ hy62) ?_)
 intro w hI
 refine ifE hF (fun h16 hF => ?_) (fun h16 hF => ?_)
 ·
  refine seq_c (s_neq rfl rfl (fun h => absurd (a := y61 = 0) h16 h) (fun _ => ?_))
  refine seq_nil (wp_condF rfl (wp_skip (wp_seq (rgn (by kernel_rfl) (seq_c (s_loadK hI 0 2 [iv p0_0, .slice Ap0_1 lp0_1.length cp0_1] Try.isAgg24 Try.sizeOf24 rfl rfl rfl rfl ?_))))))
  refine pu (.slice Ap1 lp1.length cp1) (by kernel_rfl) (bindE hF (fun y69 hy70 hF => ?_))
  refine seq_c (s_call 62 [.agg #[iv p0_0, .slice Ap0_1 lp0_1.length cp0_1], .slice Ap1 lp1.length cp1] (by kernel_rfl) (L62 _ p0_0 Ap0_1 cp0_1 lp0_1 Ap1 cp1 lp1 (hCp0_1.inv0 hI) hMp0_1 hKp0_1 (hCp1.inv0 hI) hMp1 hKp1 N _ hy70) ?_)
  rintro v w ⟨g71, c72, cl73, rfl, hN, r74⟩
  have hI := hI.join hN; clear hN
  refine pu (.tuple #[slv g71 y69.1.length c72, .bool y69.2]) (by kernel_rfl) (pu (slv g71 y69.1.length c72) (by kernel_rfl) (pu (.bool y69.2) (by kernel_rfl) (pu (slv g71 y69.1.length c72) (by kernel_rfl) (pu (.bool y69.2) (by kernel_rfl) (seq_nil (wp_seq (wp_seq (ifE hF (fun h23 hF => ?_) (fun h23 hF => ?_)))))))))
  ·
   rw [h23]
   refine rgn (by kernel_rfl) (pu (.bool true) (by kernel_rfl) (pu (.bool false) (by kernel_rfl) (pu (.bool false) (by kernel_rfl) (puo (slv g71 y69.1.length c72) ⟨(by kernel_rfl), (by kernel_rfl)⟩ (seq_on (by kernel_rfl) (s_loadK hI 1 2 [iv p0_0, .slice Ap0_1 lp0_1.length cp0_1] Try.isAgg24 Try.sizeOf24 rfl rfl rfl rfl ?_))))))
   refine bindE hF (fun y99 hy100 hF => ?_)
   refine seq_on (by kernel_rfl) (s_call 83 [.agg #[iv p0_0, .slice Ap0_1 lp0_1.length cp0_1]] (by kernel_rfl) (L83 _ p0_0 Ap0_1 cp0_1 lp0_1 (hCp0_1.inv0 hI) hMp0_1 hKp0_1 N _ hy100) ?_)
   rintro v w ⟨g101, c102, cl103, rfl, hN, r104⟩
   have hI := hI.join hN; clear hN
   refine bindE hF (fun y105 hy106 hF => ?_)
   refine ifE hF (fun h24 hF => ?_) (fun h24 hF => ?_)
   ·
    refine seq_on (by kernel_rfl) (s_callv hI 41 [slv g71 y69.1.length c72, slv g101 y99.length c102] (.bool true) (by kernel_rfl) (Does.mono (L41 _ (g71.map fun b => ⟨b, 0, none⟩) c72 y69.1 (g101.map fun b => ⟨b, 0, none⟩) c102 y99 (hI.rowCells 1 rfl r74) (len_le rfl r74.big) (len_le rfl r74.cap) (hI.rowCells 0 rfl r104) (len_le rfl r104.big) (len_le rfl r104.cap) N _ hy106) (fun v' w' h => ⟨h.1.trans (congrArg Value.bool h24), h.2⟩)) ?_)
    intro w hI
    refine puo (.bool false) ⟨(by kernel_rfl), (by kernel_rfl)⟩ (pu (.bool false) (by kernel_rfl) (seq_nil (wp_condF rfl (wp_skip (wp_seq (rgn (by kernel_rfl) (pu (iv 0) (by kernel_rfl) (seq_nil (wp_ret ?_)))))))))
    replace hF := Option.some.inj hF; subst hF
    exact ⟨iv 0, Ret.r1 rfl rfl, ⟨rfl, hI.below⟩⟩
   ·
    refine seq_on (by kernel_rfl) (s_callv hI 41 [slv g71 y69.1.length c72, slv g101 y99.length c102] (.bool false) (by kernel_rfl) (Does.mono (L41 _ (g71.map fun b => ⟨b, 0, none⟩) c72 y69.1 (g101.map fun b => ⟨b, 0, none⟩) c102 y99 (hI.rowCells 1 rfl r74) (len_le rfl r74.big) (len_le rfl r74.cap) (hI.rowCells 0 rfl r104) (len_le rfl r104.big) (len_le rfl r104.cap) N _ hy106) (fun v' w' h => ⟨h.1.trans (congrArg Value.bool (Bool.eq_false_iff.2 h24)), h.2⟩)) ?_)
    intro w hI
    refine puo (.bool true) ⟨(by kernel_rfl), (by kernel_rfl)⟩ (pu (.bool true) (by kernel_rfl) (seq_nil (wp_condT rfl (wp_seq (rgn (by kernel_rfl) (pu (iv 53) (by kernel_rfl) (seq_nil (wp_ret ?_))))))))
    replace hF := Option.some.inj hF; subst hF
    exact ⟨iv 53, Ret.r1 rfl rfl, ⟨rfl, hI.below⟩⟩
  ·
   rw [(Bool.eq_false_iff.2 h23)]
   refine rgn (by kernel_rfl) (pu (.bool false) (by kernel_rfl) (pu (.bool true) (by kernel_rfl) (pu (.bool true) (by kernel_rfl) (of_ (by kernel_rfl) (of_ (by kernel_rfl) (of_ (by kernel_rfl) (of_ (by kernel_rfl) (of_ (by kernel_rfl) (pu (.bool true) (by kernel_rfl) ?_)))))))))
   refine seq_nil (wp_condT rfl (wp_seq (rgn (by kernel_rfl) (pu (iv 53) (by kernel_rfl) (seq_nil (wp_ret ?_))))))
   replace hF := Option.some.inj hF; subst hF
   exact ⟨iv 53, Ret.r1 rfl rfl, ⟨rfl, hI.below⟩⟩
 ·
  refine seq_c (s_neq rfl rfl (fun _ => ?_) (fun h => absurd (a := y61 = 0) h h16))
  refine seq_nil (wp_condT rfl (wp_seq (rgn (by kernel_rfl) (pu (iv 52) (by kernel_rfl) (seq_nil (wp_ret ?_))))))
  replace hF := Option.some.inj hF; subst hF
  exact ⟨iv 52, Ret.r1 rfl rfl, ⟨rfl, hI.below⟩⟩


theorem L5 (w0 : World) (p0_0 : Int) (Ap0_1 : Option Addr) (cp0_1 : Nat) (lp0_1 : List Cm) (Ap1 : Option Addr) (cp1 : Nat) (lp1 : List Int) (hCp0_1 : Cells w0 Ap0_1 (flat eCm lp0_1)) (hMp0_1 : lp0_1.length ≤ 9223372036854775807) (hKp0_1 : lp0_1.length ≤ cp0_1) (hCp1 : Cells w0 Ap1 (flat eInt lp1)) (hMp1 : lp1.length ≤ 9223372036854775807) (hKp1 : lp1.length ≤ cp1) (N : Nat) (r : Bool) (hF : F5 N p0_0 lp0_1 lp1 = some r) : Does Try.prog 5 [.agg #[.int .i64 p0_0, .slice Ap0_1 lp0_1.length cp0_1], .slice Ap1 lp1.length cp1] w0 fun v w => v = .bool r ∧ Below w0.heap.size w0 w := by
 refine calls_of (n := 88) Try.func5 rfl Try.ntmps5 rfl ?_
 have hI := Inv.start w0
 unfold F5 at hF
 refine wp_seq (rgn (by kernel_rfl) (seq_c (s_boxI hI [iv p0_0, .slice Ap0_1 lp0_1.length cp0_1] rfl ?_)))
 intro b89 w hI
 refine pu (.bool false) (by kernel_rfl) (seq_nil (wp_seq (rgn (by kernel_rfl) (seq_c (s_loadK hI 0 2 [iv p0_0, .slice Ap0_1 lp0_1.length cp0_1] Try.isAgg24 Try.sizeOf24 rfl rfl rfl rfl ?_)))))
 refine bindE hF (fun y92 hy93 hF => ?_)
 refine seq_c (s_callv hI 36 [.agg #[iv p0_0, .slice Ap0_1 lp0_1.length cp0_1]] (.tuple #[iv y92.1, iv y92.2]) (by kernel_rfl) (L36 _ p0_0 Ap0_1 cp0_1 lp0_1 (hCp0_1.inv0 hI) hMp0_1 hKp0_1 N _ hy93) ?_)
 intro w hI
 refine pu (.tuple #[iv y92.1, iv y92.2]) (by kernel_rfl) (pu (iv y92.1) (by kernel_rfl) (pu (iv y92.2) (by kernel_rfl) (pu (iv y92.1) (by kernel_rfl) (pu (iv y92.2) (by kernel_rfl) (seq_nil (wp_seq (rgn (by kernel_rfl) (seq_c (s_loadK hI 0 2 [iv p0_0, .slice Ap0_1 lp0_1.length cp0_1] Try.isAgg24 Try.sizeOf24 rfl rfl rfl rfl ?_)))))))))
 refine bindE hF (fun y96 hy97 hF => ?_)
 refine seq_c (s_callv hI 37 [.agg #[iv p0_0, .slice Ap0_1 lp0_1.length cp0_1]] (.tuple #[iv y96.1, iv y96.2]) (by kernel_rfl) (L37 _ p0_0 Ap0_1 cp0_1 lp0_1 (hCp0_1.inv0 hI) hMp0_1 hKp0_1 N _ hy97) ?_)
 intro w hI
 refine pu (.tuple #[iv y96.1, iv y96.2]) (by kernel_rfl) (pu (iv y96.1) (by kernel_rfl) (pu (iv y96.2) (by kernel_rfl) (pu (iv y96.1) (by kernel_rfl) (pu (iv y96.2) (by kernel_rfl) (seq_nil (wp_seq (rgn (by kernel_rfl) (seq_c (s_loadK hI 0 2 [iv p0_0, .slice Ap0_1 lp0_1.length cp0_1] Try.isAgg24 Try.sizeOf24 rfl rfl rfl rfl ?_)))))))))
 refine bindE hF (fun y104 hy105 hF => ?_)
 refine seq_c (s_call 38 [.agg #[iv p0_0, .slice Ap0_1 lp0_1.length cp0_1]] (by kernel_rfl) (L38 _ p0_0 Ap0_1 cp0_1 lp0_1 (hCp0_1.inv0 hI) hMp0_1 hKp0_1 N _ hy105) ?_)
 rintro v w ⟨g106, c107, cl108, rfl, hN, r109⟩
 have hI := hI.join hN; clear hN
 refine pu (.tuple #[slv g106 y104.1.length c107, iv y104.2]) (by kernel_rfl) (pu (slv g106 y104.1.length c107) (by kernel_rfl) (pu (iv y104.2) (by kernel_rfl) (pu (slv g106 y104.1.length c107) (by kernel_rfl) (pu (iv y104.2) (by kernel_rfl) (seq_nil (wp_seq (rgn (by kernel_rfl) (seq_c (s_loadK hI 1 2 [iv p0_0, .slice Ap0_1 lp0_1.length cp0_1] Try.isAgg24 Try.sizeOf24 rfl rfl rfl rfl ?_)))))))))
 refine bindE hF (fun y116 hy117 hF => ?_)
 refine seq_c (s_call 39 [.agg #[iv p0_0, .slice Ap0_1 lp0_1.length cp0_1]] (by kernel_rfl) (L39 _ p0_0 Ap0_1 cp0_1 lp0_1 (hCp0_1.inv0 hI) hMp0_1 hKp0_1 N _ hy117) ?_)
 rintro v w ⟨g118, c119, cl120, rfl, hN, r121⟩
 have hI := hI.join hN; clear hN
 refine pu (.tuple #[slv g118 y116.1.length c119, iv y116.2]) (by kernel_rfl) (pu (slv g118 y116.1.length c119) (by kernel_rfl) (pu (iv y116.2) (by kernel_rfl) (pu (slv g118 y116.1.length c119) (by kernel_rfl) (pu (iv y116.2) (by kernel_rfl) (seq_nil (wp_seq (rgn (by kernel_rfl) (seq_c (s_loadK hI 2 2 [iv p0_0, .slice Ap0_1 lp0_1.length cp0_1] Try.isAgg24 Try.sizeOf24 rfl rfl rfl rfl ?_)))))))))
 refine bindE hF (fun y128 hy129 hF => ?_)
 refine seq_c (s_call 40 [.agg #[iv p0_0, .slice Ap0_1 lp0_1.length cp0_1]] (by kernel_rfl) (L40 _ p0_0 Ap0_1 cp0_1 lp0_1 (hCp0_1.inv0 hI) hMp0_1 hKp0_1 N _ hy129) ?_)
 rintro v w ⟨g130, c131, cl132, rfl, hN, r133⟩
 have hI := hI.join hN; clear hN
 refine pu (.tuple #[slv g130 y128.1.length c131, iv y128.2]) (by kernel_rfl) (pu (slv g130 y128.1.length c131) (by kernel_rfl) (pu (iv y128.2) (by kernel_rfl) (pu (slv g130 y128.1.length c131) (by kernel_rfl) (pu (iv y128.2) (by kernel_rfl) (seq_nil (wp_seq (wp_seq (ifE hF (fun h53 hF => ?_) (fun h53 hF => ?_)))))))))
 ·
  refine ifE hF (fun h54 hF => ?_) (fun h54 hF => ?_)
  ·
   refine bindE hF (fun y152 hy153 hF => ?_)
   refine ifE hF (fun h55 hF => ?_) (fun h55 hF => ?_)
   ·
    refine ifE hF (fun h56 hF => ?_) (fun h56 hF => ?_)
    ·
     refine ifE hF (fun h57 hF => ?_) (fun h57 hF => ?_)
     ·
      refine bindE hF (fun y154 hy155 hF => ?_)
      refine bindE hF (fun y156 hy157 hF => ?_)
      refine ifE hF (fun h58 hF => ?_) (fun h58 hF => ?_)
      ·
       refine wp_drawn2 hI [0, 1, 2, 3] (by decide) rfl (by kernel_rfl) (by kernel_rfl) ?_
       intro hsub
       refine alp 0 (iv y92.1) hsub rfl (by kernel_rfl) (fun _ => (by kernel_rfl)) ?_
       refine alp 1 (iv y96.1) hsub rfl (by kernel_rfl) (fun _ => (by kernel_rfl)) ?_
       refine al_light 2 (.bool false) hsub rfl (by kernel_rfl) (fun w hI => s_neq rfl rfl (fun h => absurd (a := y92.1 = y96.1) h53 h) (fun _ => ⟨rfl, Below.refl _ _⟩)) ?_
       refine alp 3 (.bool false) hsub rfl (by kernel_rfl) (fun _ => (by kernel_rfl)) ?_
       refine al_on 4 (iv y92.2) hsub rfl (by kernel_rfl) (by kernel_rfl) (fun w hI => s_pure (iv y92.2) (by kernel_rfl) ⟨rfl, Below.refl _ _⟩) ?_
       refine al_on 5 (iv y96.2) hsub rfl (by kernel_rfl) (by kernel_rfl) (fun w hI => s_pure (iv y96.2) (by kernel_rfl) ⟨rfl, Below.refl _ _⟩) ?_
       refine al_on 6 (.bool false) hsub rfl (by kernel_rfl) (by kernel_rfl) (fun w hI => s_neq rfl rfl (fun h => absurd (a := y92.2 = y96.2) h54 h) (fun _ => ⟨rfl, Below.refl _ _⟩)) ?_
       refine alp 7 (.bool false) hsub rfl (by kernel_rfl) (fun _ => (by kernel_rfl)) ?_
       refine alp 8 (.bool false) hsub rfl (by kernel_rfl) (fun _ => (by kernel_rfl)) ?_
       refine al_on 9 (slv g106 y104.1.length c107) hsub rfl (by kernel_rfl) (by kernel_rfl) (fun w hI => s_pure (slv g106 y104.1.length c107) (by kernel_rfl) ⟨rfl, Below.refl _ _⟩) ?_
       refine al_on 10 (slv g118 y116.1.length c119) hsub rfl (by kernel_rfl) (by kernel_rfl) (fun w hI => s_pure (slv g118 y116.1.length c119) (by kernel_rfl) ⟨rfl, Below.refl _ _⟩) ?_
       refine al_on 11 (.bool true) hsub rfl (by kernel_rfl) (by kernel_rfl) (fun w hI => s_call 41 [slv g106 y104.1.length c107, slv g118 y116.1.length c119] (by kernel_rfl) (Does.mono (L41 _ (g106.map fun b => ⟨b, 0, none⟩) c107 y104.1 (g118.map fun b => ⟨b, 0, none⟩) c119 y116.1 (hI.rowCells 2 rfl r109) (len_le rfl r109.big) (len_le rfl r109.cap) (hI.rowCells 1 rfl r121) (len_le rfl r121.big) (len_le rfl r121.cap) N _ hy153) (fun v' w' h => ⟨h.1.trans (congrArg Value.bool h55), h.2⟩)) (fun v' w' h => h)) ?_
       refine al_on 12 (.bool false) hsub rfl (by kernel_rfl) (by kernel_rfl) (fun w hI => s_pure (.bool false) (by kernel_rfl) ⟨rfl, Below.refl _ _⟩) ?_
       refine alp 13 (.bool false) hsub rfl (by kernel_rfl) (fun _ => (by kernel_rfl)) ?_
       refine alp 14 (.bool false) hsub rfl (by kernel_rfl) (fun _ => (by kernel_rfl)) ?_
       refine al_on 15 (iv y104.2) hsub rfl (by kernel_rfl) (by kernel_rfl) (fun w hI => s_pure (iv y104.2) (by kernel_rfl) ⟨rfl, Below.refl _ _⟩) ?_
       refine al_on 16 (iv y116.2) hsub rfl (by kernel_rfl) (by kernel_rfl) (fun w hI => s_pure (iv y116.2) (by kernel_rfl) ⟨rfl, Below.refl _ _⟩) ?_
       refine al_on 17 (.bool false) hsub rfl (by kernel_rfl) (by kernel_rfl) (fun w hI => s_neq rfl rfl (fun h => absurd (a := y104.2 = y116.2) h56 h) (fun _ => ⟨rfl, Below.refl _ _⟩)) ?_
       refine alp 18 (.bool false) hsub rfl (by kernel_rfl) (fun _ => (by kernel_rfl)) ?_
       refine alp 19 (.bool false) hsub rfl (by kernel_rfl) (fun _ => (by kernel_rfl)) ?_
       refine al_on 20 (iv y128.2) hsub rfl (by kernel_rfl) (by kernel_rfl) (fun w hI => s_pure (iv y128.2) (by kernel_rfl) ⟨rfl, Below.refl _ _⟩) ?_
       refine al_on 21 (iv y116.2) hsub rfl (by kernel_rfl) (by kernel_rfl) (fun w hI => s_pure (iv y116.2) (by kernel_rfl) ⟨rfl, Below.refl _ _⟩) ?_
       refine al_on 22 (.bool false) hsub rfl (by kernel_rfl) (by kernel_rfl) (fun w hI => s_neq rfl rfl (fun h => absurd (a := y128.2 = y116.2) h57 h) (fun _ => ⟨rfl, Below.refl _ _⟩)) ?_
       refine alp 23 (.bool false) hsub rfl (by kernel_rfl) (fun _ => (by kernel_rfl)) ?_
       refine alp 24 (.bool false) hsub rfl (by kernel_rfl) (fun _ => (by kernel_rfl)) ?_
       refine al_on 25 (.agg #[iv p0_0, .slice Ap0_1 lp0_1.length cp0_1]) hsub rfl (by kernel_rfl) (by kernel_rfl) (fun w hI => s_loadK hI 3 2 [iv p0_0, .slice Ap0_1 lp0_1.length cp0_1] Try.isAgg24 Try.sizeOf24 rfl rfl rfl rfl ⟨rfl, Below.refl _ _⟩) ?_
       refine al_on 26 (.slice Ap1 lp1.length cp1) hsub rfl (by kernel_rfl) (by kernel_rfl) (fun w hI => s_pure (.slice Ap1 lp1.length cp1) (by kernel_rfl) ⟨rfl, Below.refl _ _⟩) ?_
       refine al_on 27 (iv y154) hsub rfl (by kernel_rfl) (by kernel_rfl) (fun w hI => s_call 42 [.agg #[iv p0_0, .slice Ap0_1 lp0_1.length cp0_1], .slice Ap1 lp1.length cp1] (by kernel_rfl) (L42 _ p0_0 Ap0_1 cp0_1 lp0_1 Ap1 cp1 lp1 (hCp0_1.inv0 hI) hMp0_1 hKp0_1 (hCp1.inv0 hI) hMp1 hKp1 N _ hy155) (fun v' w' h => h)) ?_
       refine al_on 28 (.agg #[iv p0_0, .slice Ap0_1 lp0_1.length cp0_1]) hsub rfl (by kernel_rfl) (by kernel_rfl) (fun w hI => s_loadK hI 3 2 [iv p0_0, .slice Ap0_1 lp0_1.length cp0_1] Try.isAgg24 Try.sizeOf24 rfl rfl rfl rfl ⟨rfl, Below.refl _ _⟩) ?_
       refine al_on 29 (.slice Ap1 lp1.length cp1) hsub rfl (by kernel_rfl) (by kernel_rfl) (fun w hI => s_pure (.slice Ap1 lp1.length cp1) (by kernel_rfl) ⟨rfl, Below.refl _ _⟩) ?_
       refine al_on 30 (iv y156) hsub rfl (by kernel_rfl) (by kernel_rfl) (fun w hI => s_call 43 [.agg #[iv p0_0, .slice Ap0_1 lp0_1.length cp0_1], .slice Ap1 lp1.length cp1] (by kernel_rfl) (L43 _ p0_0 Ap0_1 cp0_1 lp0_1 Ap1 cp1 lp1 (hCp0_1.inv0 hI) hMp0_1 hKp0_1 (hCp1.inv0 hI) hMp1 hKp1 N _ hy157) (fun v' w' h => h)) ?_
       refine al_on 31 (.bool false) hsub rfl (by kernel_rfl) (by kernel_rfl) (fun w hI => s_neq rfl rfl (fun h => absurd (a := y154 = y156) h58 h) (fun _ => ⟨rfl, Below.refl _ _⟩)) ?_
       refine alp 32 (.bool false) hsub rfl (by kernel_rfl) (fun _ => (by kernel_rfl)) ?_
       refine any_end (by kernel_rfl) (fun w hI => ?_)
       refine wp_condF rfl (wp_skip (wp_seq (wp_seq (rgn (by kernel_rfl) (pu (iv y128.2) (by kernel_rfl) (ifE hF (fun h64 hF => ?_) (fun h64 hF => ?_)))))))
       ·
        refine seq_c (s_neq rfl rfl (fun h => absurd (a := y128.2 = 0) h64 h) (fun _ => ?_))
        refine seq_nil (wp_condF rfl (wp_skip (wp_seq (rgn (by kernel_rfl) (seq_c (s_loadK hI 3 2 [iv p0_0, .slice Ap0_1 lp0_1.length cp0_1] Try.isAgg24 Try.sizeOf24 rfl rfl rfl rfl ?_))))))
        refine pu (slv g130 y128.1.length c131) (by kernel_rfl) (bindE hF (fun y168 hy169 hF => ?_))
        refine seq_c (s_callv hI 43 [.agg #[iv p0_0, .slice Ap0_1 lp0_1.length cp0_1], slv g130 y128.1.length c131] (iv y168) (by kernel_rfl) (L43 _ p0_0 Ap0_1 cp0_1 lp0_1 (g130.map fun b => ⟨b, 0, none⟩) c131 y128.1 (hCp0_1.inv0 hI) hMp0_1 hKp0_1 (hI.rowCells 0 rfl r133) (len_le rfl r133.big) (len_le rfl r133.cap) N _ hy169) ?_)
        intro w hI
        refine ifE hF (fun h66 hF => ?_) (fun h66 hF => ?_)
        ·
         refine seq_c (s_eql rfl rfl (fun _ => ?_) (fun h => absurd (a := y168 = 0) h66 h))
         refine pu (.bool true) (by kernel_rfl) (bindE hF (fun y170 hy171 hF => ?_))
         refine seq_on (by kernel_rfl) (s_callv hI 25 [] (.bool y170) (by kernel_rfl) (L25 _ N _ hy171) ?_)
         intro w hI
         refine pu (.bool y170) (by kernel_rfl) (pu (.bool y170) (by kernel_rfl) (seq_nil (wp_ret ?_)))
         replace hF := Option.some.inj hF; subst hF
         exact ⟨.bool y170, Ret.r1 rfl rfl, ⟨rfl, hI.below⟩⟩
        ·
         refine seq_c (s_eql rfl rfl (fun h => absurd (a := y168 = 0) h h66) (fun _ => ?_))
         refine pu (.bool false) (by kernel_rfl) (of_ (by kernel_rfl) (pu (.bool false) (by kernel_rfl) (pu (.bool false) (by kernel_rfl) (seq_nil (wp_ret ?_)))))
         replace hF := Option.some.inj hF; subst hF
         exact ⟨.bool false, Ret.r1 rfl rfl, ⟨rfl, hI.below⟩⟩
       ·
        refine seq_c (s_neq rfl rfl (fun _ => ?_) (fun h => absurd (a := y128.2 = 0) h h64))
        refine seq_nil (wp_condT rfl (wp_seq (rgn (by kernel_rfl) (pu (slv g130 y128.1.length c131) (by kernel_rfl) (pu (iv ((y128.1.length : Nat) : Int)) (by kernel_rfl) (ifE hF (fun h68 hF => ?_) (fun h68 hF => ?_)))))))
        ·
         refine seq_c (s_eql rfl rfl (fun _ => ?_) (fun h => absurd (a := (y128.1.length : Int) = 0) h68 h))
         refine pu (.bool true) (by kernel_rfl) (bindE hF (fun y175 hy176 hF => ?_))
         refine seq_on (by kernel_rfl) (s_callv hI 25 [] (.bool y175) (by kernel_rfl) (L25 _ N _ hy176) ?_)
         intro w hI
         refine pu (.bool y175) (by kernel_rfl) (pu (.bool y175) (by kernel_rfl) (seq_nil (wp_ret ?_)))
         replace hF := Option.some.inj hF; subst hF
         exact ⟨.bool y175, Ret.r1 rfl rfl, ⟨rfl, hI.below⟩⟩
        ·
         refine seq_c (s_eql rfl rfl (fun h => absurd (a := (y128.1.length : Int) = 0) h h68) (fun _ => ?_))
         refine pu (.bool false) (by kernel_rfl) (of_ (by kernel_rfl) (pu (.bool false) (by kernel_rfl) (pu (.bool false) (by kernel_rfl) (seq_nil (wp_ret ?_)))))
         replace hF := Option.some.inj hF; subst hF
         exact ⟨.bool false, Ret.r1 rfl rfl, ⟨rfl, hI.below⟩⟩
      ·
       refine wp_drawn2 hI [0, 1, 2, 3] (by decide) rfl (by kernel_rfl) (by kernel_rfl) ?_
       intro hsub
       refine alp 0 (iv y92.1) hsub rfl (by kernel_rfl) (fun _ => (by kernel_rfl)) ?_
       refine alp 1 (iv y96.1) hsub rfl (by kernel_rfl) (fun _ => (by kernel_rfl)) ?_
       refine al_light 2 (.bool false) hsub rfl (by kernel_rfl) (fun w hI => s_neq rfl rfl (fun h => absurd (a := y92.1 = y96.1) h53 h) (fun _ => ⟨rfl, Below.refl _ _⟩)) ?_
       refine alp 3 (.bool false) hsub rfl (by kernel_rfl) (fun _ => (by kernel_rfl)) ?_
       refine al_on 4 (iv y92.2) hsub rfl (by kernel_rfl) (by kernel_rfl) (fun w hI => s_pure (iv y92.2) (by kernel_rfl) ⟨rfl, Below.refl _ _⟩) ?_
       refine al_on 5 (iv y96.2) hsub rfl (by kernel_rfl) (by kernel_rfl) (fun w hI => s_pure (iv y96.2) (by kernel_rfl) ⟨rfl, Below.refl _ _⟩) ?_
       refine al_on 6 (.bool false) hsub rfl (by kernel_rfl) (by kernel_rfl) (fun w hI => s_neq rfl rfl (fun h => absurd (a := y92.2 = y96.2) h54 h) (fun _ => ⟨rfl, Below.refl _ _⟩)) ?_
       refine alp 7 (.bool false) hsub rfl (by kernel_rfl) (fun _ => (by kernel_rfl)) ?_
       refine alp 8 (.bool false) hsub rfl (by kernel_rfl) (fun _ => (by kernel_rfl)) ?_
       refine al_on 9 (slv g106 y104.1.length c107) hsub rfl (by kernel_rfl) (by kernel_rfl) (fun w hI => s_pure (slv g106 y104.1.length c107) (by kernel_rfl) ⟨rfl, Below.refl _ _⟩) ?_
       refine al_on 10 (slv g118 y116.1.length c119) hsub rfl (by kernel_rfl) (by kernel_rfl) (fun w hI => s_pure (slv g118 y116.1.length c119) (by kernel_rfl) ⟨rfl, Below.refl _ _⟩) ?_
       refine al_on 11 (.bool true) hsub rfl (by kernel_rfl) (by kernel_rfl) (fun w hI => s_call 41 [slv g106 y104.1.length c107, slv g118 y116.1.length c119] (by kernel_rfl) (Does.mono (L41 _ (g106.map fun b => ⟨b, 0, none⟩) c107 y104.1 (g118.map fun b => ⟨b, 0, none⟩) c119 y116.1 (hI.rowCells 2 rfl r109) (len_le rfl r109.big) (len_le rfl r109.cap) (hI.rowCells 1 rfl r121) (len_le rfl r121.big) (len_le rfl r121.cap) N _ hy153) (fun v' w' h => ⟨h.1.trans (congrArg Value.bool h55), h.2⟩)) (fun v' w' h => h)) ?_
       refine al_on 12 (.bool false) hsub rfl (by kernel_rfl) (by kernel_rfl) (fun w hI => s_pure (.bool false) (by kernel_rfl) ⟨rfl, Below.refl _ _⟩) ?_
       refine alp 13 (.bool false) hsub rfl (by kernel_rfl) (fun _ => (by kernel_rfl)) ?_
       refine alp 14 (.bool false) hsub rfl (by kernel_rfl) (fun _ => (by kernel_rfl)) ?_
       refine al_on 15 (iv y104.2) hsub rfl (by kernel_rfl) (by kernel_rfl) (fun w hI => s_pure (iv y104.2) (by kernel_rfl) ⟨rfl, Below.refl _ _⟩) ?_
       refine al_on 16 (iv y116.2) hsub rfl (by kernel_rfl) (by kernel_rfl) (fun w hI => s_pure (iv y116.2) (by kernel_rfl) ⟨rfl, Below.refl _ _⟩) ?_
       refine al_on 17 (.bool false) hsub rfl (by kernel_rfl) (by kernel_rfl) (fun w hI => s_neq rfl rfl (fun h => absurd (a := y104.2 = y116.2) h56 h) (fun _ => ⟨rfl, Below.refl _ _⟩)) ?_
       refine alp 18 (.bool false) hsub rfl (by kernel_rfl) (fun _ => (by kernel_rfl)) ?_
       refine alp 19 (.bool false) hsub rfl (by kernel_rfl) (fun _ => (by kernel_rfl)) ?_
       refine al_on 20 (iv y128.2) hsub rfl (by kernel_rfl) (by kernel_rfl) (fun w hI => s_pure (iv y128.2) (by kernel_rfl) ⟨rfl, Below.refl _ _⟩) ?_
       refine al_on 21 (iv y116.2) hsub rfl (by kernel_rfl) (by kernel_rfl) (fun w hI => s_pure (iv y116.2) (by kernel_rfl) ⟨rfl, Below.refl _ _⟩) ?_
       refine al_on 22 (.bool false) hsub rfl (by kernel_rfl) (by kernel_rfl) (fun w hI => s_neq rfl rfl (fun h => absurd (a := y128.2 = y116.2) h57 h) (fun _ => ⟨rfl, Below.refl _ _⟩)) ?_
       refine alp 23 (.bool false) hsub rfl (by kernel_rfl) (fun _ => (by kernel_rfl)) ?_
       refine alp 24 (.bool false) hsub rfl (by kernel_rfl) (fun _ => (by kernel_rfl)) ?_
       refine al_on 25 (.agg #[iv p0_0, .slice Ap0_1 lp0_1.length cp0_1]) hsub rfl (by kernel_rfl) (by kernel_rfl) (fun w hI => s_loadK hI 3 2 [iv p0_0, .slice Ap0_1 lp0_1.length cp0_1] Try.isAgg24 Try.sizeOf24 rfl rfl rfl rfl ⟨rfl, Below.refl _ _⟩) ?_
       refine al_on 26 (.slice Ap1 lp1.length cp1) hsub rfl (by kernel_rfl) (by kernel_rfl) (fun w hI => s_pure (.slice Ap1 lp1.length cp1) (by kernel_rfl) ⟨rfl, Below.refl _ _⟩) ?_
       refine al_on 27 (iv y154) hsub rfl (by kernel_rfl) (by kernel_rfl) (fun w hI => s_call 42 [.agg #[iv p0_0, .slice Ap0_1 lp0_1.length cp0_1], .slice Ap1 lp1.length cp1] (by kernel_rfl) (L42 _ p0_0 Ap0_1 cp0_1 lp0_1 Ap1 cp1 lp1 (hCp0_1.inv0 hI) hMp0_1 hKp0_1 (hCp1.inv0 hI) hMp1 hKp1 N _ hy155) (fun v' w' h => h)) ?_
       refine al_on 28 (.agg #[iv p0_0, .slice Ap0_1 lp0_1.length cp0_1]) hsub rfl (by kernel_rfl) (by kernel_rfl) (fun w hI => s_loadK hI 3 2 [iv p0_0, .slice Ap0_1 lp0_1.length cp0_1] Try.isAgg24 Try.sizeOf24 rfl rfl rfl rfl ⟨rfl, Below.refl _ _⟩) ?_
       refine al_on 29 (.slice Ap1 lp1.length cp1) hsub rfl (by kernel_rfl) (by kernel_rfl) (fun w hI => s_pure (.slice Ap1 lp1.length cp1) (by kernel_rfl) ⟨rfl, Below.refl _ _⟩) ?_
       refine al_on 30 (iv y156) hsub rfl (by kernel_rfl) (by kernel_rfl) (fun w hI => s_call 43 [.agg #[iv p0_0, .slice Ap0_1 lp0_1.length cp0_1], .slice Ap1 lp1.length cp1] (by kernel_rfl) (L43 _ p0_0 Ap0_1 cp0_1 lp0_1 Ap1 cp1 lp1 (hCp0_1.inv0 hI) hMp0_1 hKp0_1 (hCp1.inv0 hI) hMp1 hKp1 N _ hy157) (fun v' w' h => h)) ?_
       refine al_on 31 (.bool true) hsub rfl (by kernel_rfl) (by kernel_rfl) (fun w hI => s_neq rfl rfl (fun _ => ⟨rfl, Below.refl _ _⟩) (fun h => absurd (a := y154 = y156) h h58)) ?_
       refine alp 32 (.bool true) hsub rfl (by kernel_rfl) (fun _ => (by kernel_rfl)) ?_
       refine any_end (by kernel_rfl) (fun w hI => ?_)
       refine wp_condT rfl (wp_seq (rgn (by kernel_rfl) (pu (.bool false) (by kernel_rfl) (seq_nil (wp_ret ?_)))))
       replace hF := Option.some.inj hF; subst hF
       exact ⟨.bool false, Ret.r1 rfl rfl, ⟨rfl, hI.below⟩⟩
     ·
      refine wp_drawn2 hI [0, 1, 2, 3] (by decide) rfl (by kernel_rfl) (by kernel_rfl) ?_
      intro hsub
      refine alp 0 (iv y92.1) hsub rfl (by kernel_rfl) (fun _ => (by kernel_rfl)) ?_
      refine alp 1 (iv y96.1) hsub rfl (by kernel_rfl) (fun _ => (by kernel_rfl)) ?_
      refine al_light 2 (.bool false) hsub rfl (by kernel_rfl) (fun w hI => s_neq rfl rfl (fun h => absurd (a := y92.1 = y96.1) h53 h) (fun _ => ⟨rfl, Below.refl _ _⟩)) ?_
      refine alp 3 (.bool false) hsub rfl (by kernel_rfl) (fun _ => (by kernel_rfl)) ?_
      refine al_on 4 (iv y92.2) hsub rfl (by kernel_rfl) (by kernel_rfl) (fun w hI => s_pure (iv y92.2) (by kernel_rfl) ⟨rfl, Below.refl _ _⟩) ?_
      refine al_on 5 (iv y96.2) hsub rfl (by kernel_rfl) (by kernel_rfl) (fun w hI => s_pure (iv y96.2) (by kernel_rfl) ⟨rfl, Below.refl _ _⟩) ?_
      refine al_on 6 (.bool false) hsub rfl (by kernel_rfl) (by kernel_rfl) (fun w hI => s_neq rfl rfl (fun h => absurd (a := y92.2 = y96.2) h54 h) (fun _ => ⟨rfl, Below.refl _ _⟩)) ?_
      refine alp 7 (.bool false) hsub rfl (by kernel_rfl) (fun _ => (by kernel_rfl)) ?_
      refine alp 8 (.bool false) hsub rfl (by kernel_rfl) (fun _ => (by kernel_rfl)) ?_
      refine al_on 9 (slv g106 y104.1.length c107) hsub rfl (by kernel_rfl) (by kernel_rfl) (fun w hI => s_pure (slv g106 y104.1.length c107) (by kernel_rfl) ⟨rfl, Below.refl _ _⟩) ?_
      refine al_on 10 (slv g118 y116.1.length c119) hsub rfl (by kernel_rfl) (by kernel_rfl) (fun w hI => s_pure (slv g118 y116.1.length c119) (by kernel_rfl) ⟨rfl, Below.refl _ _⟩) ?_
      refine al_on 11 (.bool true) hsub rfl (by kernel_rfl) (by kernel_rfl) (fun w hI => s_call 41 [slv g106 y104.1.length c107, slv g118 y116.1.length c119] (by kernel_rfl) (Does.mono (L41 _ (g106.map fun b => ⟨b, 0, none⟩) c107 y104.1 (g118.map fun b => ⟨b, 0, none⟩) c119 y116.1 (hI.rowCells 2 rfl r109) (len_le rfl r109.big) (len_le rfl r109.cap) (hI.rowCells 1 rfl r121) (len_le rfl r121.big) (len_le rfl r121.cap) N _ hy153) (fun v' w' h => ⟨h.1.trans (congrArg Value.bool h55), h.2⟩)) (fun v' w' h => h)) ?_
      refine al_on 12 (.bool false) hsub rfl (by kernel_rfl) (by kernel_rfl) (fun w hI => s_pure (.bool false) (by kernel_rfl) ⟨rfl, Below.refl _ _⟩) ?_
      refine alp 13 (.bool false) hsub rfl (by kernel_rfl) (fun _ => (by kernel_rfl)) ?_
      refine alp 14 (.bool false) hsub rfl (by kernel_rfl) (fun _ => (by kernel_rfl)) ?_
      refine al_on 15 (iv y104.2) hsub rfl (by kernel_rfl) (by kernel_rfl) (fun w hI => s_pure (iv y104.2) (by kernel_rfl) ⟨rfl, Below.refl _ _⟩) ?_
      refine al_on 16 (iv y116.2) hsub rfl (by kernel_rfl) (by kernel_rfl) (fun w hI => s_pure (iv y116.2) (by kernel_rfl) ⟨rfl, Below.refl _ _⟩) ?_
      refine al_on 17 (.bool false) hsub rfl (by kernel_rfl) (by kernel_rfl) (fun w hI => s_neq rfl rfl (fun h => absurd (a := y104.2 = y116.2) h56 h) (fun _ => ⟨rfl, Below.refl _ _⟩)) ?_
      refine alp 18 (.bool false) hsub rfl (by kernel_rfl) (fun _ => (by kernel_rfl)) ?_
      refine alp 19 (.bool false) hsub rfl (by kernel_rfl) (fun _ => (by kernel_rfl)) ?_
      refine al_on 20 (iv y128.2) hsub rfl (by kernel_rfl) (by kernel_rfl) (fun w hI => s_pure (iv y128.2) (by kernel_rfl) ⟨rfl, Below.refl _ _⟩) ?_
      refine al_on 21 (iv y116.2) hsub rfl (by kernel_rfl) (by kernel_rfl) (fun w hI => s_pure (iv y116.2) (by kernel_rfl) ⟨rfl, Below.refl _ _⟩) ?_
      refine al_on 22 (.bool true) hsub rfl (by kernel_rfl) (by kernel_rfl) (fun w hI => s_neq rfl rfl (fun _ => ⟨rfl, Below.refl _ _⟩) (fun h => absurd (a := y128.2 = y116.2) h h57)) ?_
      refine alp 23 (.bool true) hsub rfl (by kernel_rfl) (fun _ => (by kernel_rfl)) ?_
      refine alp 24 (.bool true) hsub rfl (by kernel_rfl) (fun _ => (by kernel_rfl)) ?_
      refine al_off 25 hsub rfl (by kernel_rfl) (by kernel_rfl) ?_
      refine al_off 26 hsub rfl (by kernel_rfl) (by kernel_rfl) ?_
      refine al_off 27 hsub rfl (by kernel_rfl) (by kernel_rfl) ?_
      refine al_off 28 hsub rfl (by kernel_rfl) (by kernel_rfl) ?_
      refine al_off 29 hsub rfl (by kernel_rfl) (by kernel_rfl) ?_
      refine al_off 30 hsub rfl (by kernel_rfl) (by kernel_rfl) ?_
      refine al_off 31 hsub rfl (by kernel_rfl) (by kernel_rfl) ?_
      refine alp 32 (.bool true) hsub rfl (by kernel_rfl) (fun _ => (by kernel_rfl)) ?_
      refine any_end (by kernel_rfl) (fun w hI => ?_)
      refine wp_condT rfl (wp_seq (rgn (by kernel_rfl) (pu (.bool false) (by kernel_rfl) (seq_nil (wp_ret ?_)))))
      replace hF := Option.some.inj hF; subst hF
      exact ⟨.bool false, Ret.r1 rfl rfl, ⟨rfl, hI.below⟩⟩
    ·
     refine wp_drawn2 hI [0, 1, 2, 3] (by decide) rfl (by kernel_rfl) (by kernel_rfl) ?_
     intro hsub
     refine alp 0 (iv y92.1) hsub rfl (by kernel_rfl) (fun _ => (by kernel_rfl)) ?_
     refine alp 1 (iv y96.1) hsub rfl (by kernel_rfl) (fun _ => (by kernel_rfl)) ?_
     refine al_light 2 (.bool false) hsub rfl (by kernel_rfl) (fun w hI => s_neq rfl rfl (fun h => absurd (a := y92.1 = y96.1) h53 h) (fun _ => ⟨rfl, Below.refl _ _⟩)) ?_
     refine alp 3 (.bool false) hsub rfl (by kernel_rfl) (fun _ => (by kernel_rfl)) ?_
     refine al_on 4 (iv y92.2) hsub rfl (by kernel_rfl) (by kernel_rfl) (fun w hI => s_pure (iv y92.2) (by kernel_rfl) ⟨rfl, Below.refl _ _⟩) ?_
     refine al_on 5 (iv y96.2) hsub rfl (by kernel_rfl) (by kernel_rfl) (fun w hI => s_pure (iv y96.2) (by kernel_rfl) ⟨rfl, Below.refl _ _⟩) ?_
     refine al_on 6 (.bool false) hsub rfl (by kernel_rfl) (by kernel_rfl) (fun w hI => s_neq rfl rfl (fun h => absurd (a := y92.2 = y96.2) h54 h) (fun _ => ⟨rfl, Below.refl _ _⟩)) ?_
     refine alp 7 (.bool false) hsub rfl (by kernel_rfl) (fun _ => (by kernel_rfl)) ?_
     refine alp 8 (.bool false) hsub rfl (by kernel_rfl) (fun _ => (by kernel_rfl)) ?_
     refine al_on 9 (slv g106 y104.1.length c107) hsub rfl (by kernel_rfl) (by kernel_rfl) (fun w hI => s_pure (slv g106 y104.1.length c107) (by kernel_rfl) ⟨rfl, Below.refl _ _⟩) ?_
     refine al_on 10 (slv g118 y116.1.length c119) hsub rfl (by kernel_rfl) (by kernel_rfl) (fun w hI => s_pure (slv g118 y116.1.length c119) (by kernel_rfl) ⟨rfl, Below.refl _ _⟩) ?_
     refine al_on 11 (.bool true) hsub rfl (by kernel_rfl) (by kernel_rfl) (fun w hI => s_call 41 [slv g106 y104.1.length c107, slv g118 y116.1.length c119] (by kernel_rfl) (Does.mono (L41 _ (g106.map fun b => ⟨b, 0, none⟩) c107 y104.1 (g118.map fun b => ⟨b, 0, none⟩) c119 y116.1 (hI.rowCells 2 rfl r109) (len_le rfl r109.big) (len_le rfl r109.cap) (hI.rowCells 1 rfl r121) (len_le rfl r121.big) (len_le rfl r121.cap) N _ hy153) (fun v' w' h => ⟨h.1.trans (congrArg Value.bool h55), h.2⟩)) (fun v' w' h => h)) ?_
     refine al_on 12 (.bool false) hsub rfl (by kernel_rfl) (by kernel_rfl) (fun w hI => s_pure (.bool false) (by kernel_rfl) ⟨rfl, Below.refl _ _⟩) ?_
     refine alp 13 (.bool false) hsub rfl (by kernel_rfl) (fun _ => (by kernel_rfl)) ?_
     refine alp 14 (.bool false) hsub rfl (by kernel_rfl) (fun _ => (by kernel_rfl)) ?_
     refine al_on 15 (iv y104.2) hsub rfl (by kernel_rfl) (by kernel_rfl) (fun w hI => s_pure (iv y104.2) (by kernel_rfl) ⟨rfl, Below.refl _ _⟩) ?_
     refine al_on 16 (iv y116.2) hsub rfl (by kernel_rfl) (by kernel_rfl) (fun w hI => s_pure (iv y116.2) (by kernel_rfl) ⟨rfl, Below.refl _ _⟩) ?_
     refine al_on 17 (.bool true) hsub rfl (by kernel_rfl) (by kernel_rfl) (fun w hI => s_neq rfl rfl (fun _ => ⟨rfl, Below.refl _ _⟩) (fun h => absurd (a := y104.2 = y116.2) h h56)) ?_
     refine alp 18 (.bool true) hsub rfl (by kernel_rfl) (fun _ => (by kernel_rfl)) ?_
     refine alp 19 (.bool true) hsub rfl (by kernel_rfl) (fun _ => (by kernel_rfl)) ?_
     refine al_off 20 hsub rfl (by kernel_rfl) (by kernel_rfl) ?_
     refine al_off 21 hsub rfl (by kernel_rfl) (by kernel_rfl) ?_
     refine al_off 22 hsub rfl (by kernel_rfl) (by kernel_rfl) ?_
     refine alp 23 (.bool true) hsub rfl (by kernel_rfl) (fun _ => (by kernel_rfl)) ?_
     refine alp 24 (.bool true) hsub rfl (by kernel_rfl) (fun _ => (by kernel_rfl)) ?_
     refine al_off 25 hsub rfl (by kernel_rfl) (by kernel_rfl) ?_
     refine al_off 26 hsub rfl (by kernel_rfl) (by kernel_rfl) ?_
     refine al_off 27 hsub rfl (by kernel_rfl) (by kernel_rfl) ?_
     refine al_off 28 hsub rfl (by kernel_rfl) (by kernel_rfl) ?_
     refine al_off 29 hsub rfl (by kernel_rfl) (by kernel_rfl) ?_
     refine al_off 30 hsub rfl (by kernel_rfl) (by kernel_rfl) ?_
     refine al_off 31 hsub rfl (by kernel_rfl) (by kernel_rfl) ?_
     refine alp 32 (.bool true) hsub rfl (by kernel_rfl) (fun _ => (by kernel_rfl)) ?_
     refine any_end (by kernel_rfl) (fun w hI => ?_)
     refine wp_condT rfl (wp_seq (rgn (by kernel_rfl) (pu (.bool false) (by kernel_rfl) (seq_nil (wp_ret ?_)))))
     replace hF := Option.some.inj hF; subst hF
     exact ⟨.bool false, Ret.r1 rfl rfl, ⟨rfl, hI.below⟩⟩
   ·
    refine wp_drawn2 hI [0, 1, 2, 3] (by decide) rfl (by kernel_rfl) (by kernel_rfl) ?_
    intro hsub
    refine alp 0 (iv y92.1) hsub rfl (by kernel_rfl) (fun _ => (by kernel_rfl)) ?_
    refine alp 1 (iv y96.1) hsub rfl (by kernel_rfl) (fun _ => (by kernel_rfl)) ?_
    refine al_light 2 (.bool false) hsub rfl (by kernel_rfl) (fun w hI => s_neq rfl rfl (fun h => absurd (a := y92.1 = y96.1) h53 h) (fun _ => ⟨rfl, Below.refl _ _⟩)) ?_
    refine alp 3 (.bool false) hsub rfl (by kernel_rfl) (fun _ => (by kernel_rfl)) ?_
    refine al_on 4 (iv y92.2) hsub rfl (by kernel_rfl) (by kernel_rfl) (fun w hI => s_pure (iv y92.2) (by kernel_rfl) ⟨rfl, Below.refl _ _⟩) ?_
    refine al_on 5 (iv y96.2) hsub rfl (by kernel_rfl) (by kernel_rfl) (fun w hI => s_pure (iv y96.2) (by kernel_rfl) ⟨rfl, Below.refl _ _⟩) ?_
    refine al_on 6 (.bool false) hsub rfl (by kernel_rfl) (by kernel_rfl) (fun w hI => s_neq rfl rfl (fun h => absurd (a := y92.2 = y96.2) h54 h) (fun _ => ⟨rfl, Below.refl _ _⟩)) ?_
    refine alp 7 (.bool false) hsub rfl (by kernel_rfl) (fun _ => (by kernel_rfl)) ?_
    refine alp 8 (.bool false) hsub rfl (by kernel_rfl) (fun _ => (by kernel_rfl)) ?_
    refine al_on 9 (slv g106 y104.1.length c107) hsub rfl (by kernel_rfl) (by kernel_rfl) (fun w hI => s_pure (slv g106 y104.1.length c107) (by kernel_rfl) ⟨rfl, Below.refl _ _⟩) ?_
    refine al_on 10 (slv g118 y116.1.length c119) hsub rfl (by kernel_rfl) (by kernel_rfl) (fun w hI => s_pure (slv g118 y116.1.length c119) (by kernel_rfl) ⟨rfl, Below.refl _ _⟩) ?_
    refine al_on 11 (.bool false) hsub rfl (by kernel_rfl) (by kernel_rfl) (fun w hI => s_call 41 [slv g106 y104.1.length c107, slv g118 y116.1.length c119] (by kernel_rfl) (Does.mono (L41 _ (g106.map fun b => ⟨b, 0, none⟩) c107 y104.1 (g118.map fun b => ⟨b, 0, none⟩) c119 y116.1 (hI.rowCells 2 rfl r109) (len_le rfl r109.big) (len_le rfl r109.cap) (hI.rowCells 1 rfl r121) (len_le rfl r121.big) (len_le rfl r121.cap) N _ hy153) (fun v' w' h => ⟨h.1.trans (congrArg Value.bool (Bool.eq_false_iff.2 h55)), h.2⟩)) (fun v' w' h => h)) ?_
    refine al_on 12 (.bool true) hsub rfl (by kernel_rfl) (by kernel_rfl) (fun w hI => s_pure (.bool true) (by kernel_rfl) ⟨rfl, Below.refl _ _⟩) ?_
    refine alp 13 (.bool true) hsub rfl (by kernel_rfl) (fun _ => (by kernel_rfl)) ?_
    refine alp 14 (.bool true) hsub rfl (by kernel_rfl) (fun _ => (by kernel_rfl)) ?_
    refine al_off 15 hsub rfl (by kernel_rfl) (by kernel_rfl) ?_
    refine al_off 16 hsub rfl (by kernel_rfl) (by kernel_rfl) ?_
    refine al_off 17 hsub rfl (by kernel_rfl) (by kernel_rfl) ?_
    refine alp 18 (.bool true) hsub rfl (by kernel_rfl) (fun _ => (by kernel_rfl)) ?_
    refine alp 19 (.bool true) hsub rfl (by kernel_rfl) (fun _ => (by kernel_rfl)) ?_
    refine al_off 20 hsub rfl (by kernel_rfl) (by kernel_rfl) ?_
    refine al_off 21 hsub rfl (by kernel_rfl) (by kernel_rfl) ?_
    refine al_off 22 hsub rfl (by kernel_rfl) (by kernel_rfl) ?_
    refine alp 23 (.bool true) hsub rfl (by kernel_rfl) (fun _ => (by kernel_rfl)) ?_
    refine alp 24 (.bool true) hsub rfl (by kernel_rfl) (fun _ => (by kernel_rfl)) ?_
    refine al_off 25 hsub rfl (by kernel_rfl) (by kernel_rfl) ?_
    refine al_off 26 hsub rfl (by kernel_rfl) (by kernel_rfl) ?_
    refine al_off 27 hsub rfl (by kernel_rfl) (by kernel_rfl) ?_
    refine al_off 28 hsub rfl (by kernel_rfl) (by kernel_rfl) ?_
    refine al_off 29 hsub rfl (by kernel_rfl) (by kernel_rfl) ?_
    refine al_off 30 hsub rfl (by kernel_rfl) (by kernel_rfl) ?_
    refine al_off 31 hsub rfl (by kernel_rfl) (by kernel_rfl) ?_
    refine alp 32 (.bool true) hsub rfl (by kernel_rfl) (fun _ => (by kernel_rfl)) ?_
    refine any_end (by kernel_rfl) (fun w hI => ?_)
    refine wp_condT rfl (wp_seq (rgn (by kernel_rfl) (pu (.bool false) (by kernel_rfl) (seq_nil (wp_ret ?_)))))
    replace hF := Option.some.inj hF; subst hF
    exact ⟨.bool false, Ret.r1 rfl rfl, ⟨rfl, hI.below⟩⟩
  ·
   refine wp_drawn2 hI [0, 1, 2, 3] (by decide) rfl (by kernel_rfl) (by kernel_rfl) ?_
   intro hsub
   refine alp 0 (iv y92.1) hsub rfl (by kernel_rfl) (fun _ => (by kernel_rfl)) ?_
   refine alp 1 (iv y96.1) hsub rfl (by kernel_rfl) (fun _ => (by kernel_rfl)) ?_
   refine al_light 2 (.bool false) hsub rfl (by kernel_rfl) (fun w hI => s_neq rfl rfl (fun h => absurd (a := y92.1 = y96.1) h53 h) (fun _ => ⟨rfl, Below.refl _ _⟩)) ?_
   refine alp 3 (.bool false) hsub rfl (by kernel_rfl) (fun _ => (by kernel_rfl)) ?_
   refine al_on 4 (iv y92.2) hsub rfl (by kernel_rfl) (by kernel_rfl) (fun w hI => s_pure (iv y92.2) (by kernel_rfl) ⟨rfl, Below.refl _ _⟩) ?_
   refine al_on 5 (iv y96.2) hsub rfl (by kernel_rfl) (by kernel_rfl) (fun w hI => s_pure (iv y96.2) (by kernel_rfl) ⟨rfl, Below.refl _ _⟩) ?_
   refine al_on 6 (.bool true) hsub rfl (by kernel_rfl) (by kernel_rfl) (fun w hI => s_neq rfl rfl (fun _ => ⟨rfl, Below.refl _ _⟩) (fun h => absurd (a := y92.2 = y96.2) h h54)) ?_
   refine alp 7 (.bool true) hsub rfl (by kernel_rfl) (fun _ => (by kernel_rfl)) ?_
   refine alp 8 (.bool true) hsub rfl (by kernel_rfl) (fun _ => (by kernel_rfl)) ?_
   refine al_off 9 hsub rfl (by kernel_rfl) (by kernel_rfl) ?_
   refine al_off 10 hsub rfl (by kernel_rfl) (by kernel_rfl) ?_
   refine al_off 11 hsub rfl (by kernel_rfl) (by kernel_rfl) ?_
   refine al_off 12 hsub rfl (by kernel_rfl) (by kernel_rfl) ?_
   refine alp 13 (.bool true) hsub rfl (by kernel_rfl) (fun _ => (by kernel_rfl)) ?_
   refine alp 14 (.bool true) hsub rfl (by kernel_rfl) (fun _ => (by kernel_rfl)) ?_
   refine al_off 15 hsub rfl (by kernel_rfl) (by kernel_rfl) ?_
   refine al_off 16 hsub rfl (by kernel_rfl) (by kernel_rfl) ?_
   refine al_off 17 hsub rfl (by kernel_rfl) (by kernel_rfl) ?_
   refine alp 18 (.bool true) hsub rfl (by kernel_rfl) (fun _ => (by kernel_rfl)) ?_
   refine alp 19 (.bool true) hsub rfl (by kernel_rfl) (fun _ => (by kernel_rfl)) ?_
   refine al_off 20 hsub rfl (by kernel_rfl) (by kernel_rfl) ?_
   refine al_off 21 hsub rfl (by kernel_rfl) (by kernel_rfl) ?_
   refine al_off 22 hsub rfl (by kernel_rfl) (by kernel_rfl) ?_
   refine alp 23 (.bool true) hsub rfl (by kernel_rfl) (fun _ => (by kernel_rfl)) ?_
   refine alp 24 (.bool true) hsub rfl (by kernel_rfl) (fun _ => (by kernel_rfl)) ?_
   refine al_off 25 hsub rfl (by kernel_rfl) (by kernel_rfl) ?_
   refine al_off 26 hsub rfl (by kernel_rfl) (by kernel_rfl) ?_
   refine al_off 27 hsub rfl (by kernel_rfl) (by kernel_rfl) ?_
   refine al_off 28 hsub rfl (by kernel_rfl) (by kernel_rfl) ?_
   refine al_off 29 hsub rfl (by kernel_rfl) (by kernel_rfl) ?_
   refine al_off 30 hsub rfl (by kernel_rfl) (by kernel_rfl) ?_
   refine al_off 31 hsub rfl (by kernel_rfl) (by kernel_rfl) ?_
   refine alp 32 (.bool true) hsub rfl (by kernel_rfl) (fun _ => (by kernel_rfl)) ?_
   refine any_end (by kernel_rfl) (fun w hI => ?_)
   refine wp_condT rfl (wp_seq (rgn (by kernel_rfl) (pu (.bool false) (by kernel_rfl) (seq_nil (wp_ret ?_)))))
   replace hF := Option.some.inj hF; subst hF
   exact ⟨.bool false, Ret.r1 rfl rfl, ⟨rfl, hI.below⟩⟩
 ·
  refine wp_drawn2 hI [0, 1, 2, 3] (by decide) rfl (by kernel_rfl) (by kernel_rfl) ?_
  intro hsub
  refine alp 0 (iv y92.1) hsub rfl (by kernel_rfl) (fun _ => (by kernel_rfl)) ?_
  refine alp 1 (iv y96.1) hsub rfl (by kernel_rfl) (fun _ => (by kernel_rfl)) ?_
  refine al_light 2 (.bool true) hsub rfl (by kernel_rfl) (fun w hI => s_neq rfl rfl (fun _ => ⟨rfl, Below.refl _ _⟩) (fun h => absurd (a := y92.1 = y96.1) h h53)) ?_
  refine alp 3 (.bool true) hsub rfl (by kernel_rfl) (fun _ => (by kernel_rfl)) ?_
  refine al_off 4 hsub rfl (by kernel_rfl) (by kernel_rfl) ?_
  refine al_off 5 hsub rfl (by kernel_rfl) (by kernel_rfl) ?_
  refine al_off 6 hsub rfl (by kernel_rfl) (by kernel_rfl) ?_
  refine alp 7 (.bool true) hsub rfl (by kernel_rfl) (fun _ => (by kernel_rfl)) ?_
  refine alp 8 (.bool true) hsub rfl (by kernel_rfl) (fun _ => (by kernel_rfl)) ?_
  refine al_off 9 hsub rfl (by kernel_rfl) (by kernel_rfl) ?_
  refine al_off 10 hsub rfl (by kernel_rfl) (by kernel_rfl) ?_
  refine al_off 11 hsub rfl (by kernel_rfl) (by kernel_rfl) ?_
  refine al_off 12 hsub rfl (by kernel_rfl) (by kernel_rfl) ?_
  refine alp 13 (.bool true) hsub rfl (by kernel_rfl) (fun _ => (by kernel_rfl)) ?_
  refine alp 14 (.bool true) hsub rfl (by kernel_rfl) (fun _ => (by kernel_rfl)) ?_
  refine al_off 15 hsub rfl (by kernel_rfl) (by kernel_rfl) ?_
  refine al_off 16 hsub rfl (by kernel_rfl) (by kernel_rfl) ?_
  refine al_off 17 hsub rfl (by kernel_rfl) (by kernel_rfl) ?_
  refine alp 18 (.bool true) hsub rfl (by kernel_rfl) (fun _ => (by kernel_rfl)) ?_
  refine alp 19 (.bool true) hsub rfl (by kernel_rfl) (fun _ => (by kernel_rfl)) ?_
  refine al_off 20 hsub rfl (by kernel_rfl) (by kernel_rfl) ?_
  refine al_off 21 hsub rfl (by kernel_rfl) (by kernel_rfl) ?_
  refine al_off 22 hsub rfl (by kernel_rfl) (by kernel_rfl) ?_
  refine alp 23 (.bool true) hsub rfl (by kernel_rfl) (fun _ => (by kernel_rfl)) ?_
  refine alp 24 (.bool true) hsub rfl (by kernel_rfl) (fun _ => (by kernel_rfl)) ?_
  refine al_off 25 hsub rfl (by kernel_rfl) (by kernel_rfl) ?_
  refine al_off 26 hsub rfl (by kernel_rfl) (by kernel_rfl) ?_
  refine al_off 27 hsub rfl (by kernel_rfl) (by kernel_rfl) ?_
  refine al_off 28 hsub rfl (by kernel_rfl) (by kernel_rfl) ?_
  refine al_off 29 hsub rfl (by kernel_rfl) (by kernel_rfl) ?_
  refine al_off 30 hsub rfl (by kernel_rfl) (by kernel_rfl) ?_
  refine al_off 31 hsub rfl (by kernel_rfl) (by kernel_rfl) ?_
  refine alp 32 (.bool true) hsub rfl (by kernel_rfl) (fun _ => (by kernel_rfl)) ?_
  refine any_end (by kernel_rfl) (fun w hI => ?_)
  refine wp_condT rfl (wp_seq (rgn (by kernel_rfl) (pu (.bool false) (by kernel_rfl) (seq_nil (wp_ret ?_)))))
  replace hF := Option.some.inj hF; subst hF
  exact ⟨.bool false, Ret.r1 rfl rfl, ⟨rfl, hI.below⟩⟩


end Go.K
