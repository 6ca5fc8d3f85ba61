/- That the functions do what the pure definitions say: walks, as tools/lift.py writes them. No condition. -/
import Derived.Test.YtofnbcfjdngakaaPWd
namespace Go.K
open Go.Proofs Go.RowKit
set_option linter.unusedVariables false
set_option linter.unusedSimpArgs false
set_option maxRecDepth 100000
attribute [local irreducible] Seq Step CallV AnyE opX
theorem L10 (w0 : World) (p0 : Int) (Ap1 : Option Addr) (cp1 : Nat) (lp1 : List A2) (Ap2 : Option Addr) (cp2 : Nat) (lp2 : List Int) (hCp1 : Cells w0 Ap1 (flat eA2 lp1)) (hMp1 : lp1.length ≤ 9223372036854775807) (hKp1 : lp1.length ≤ cp1) (hCp2 : Cells w0 Ap2 (flat eInt lp2)) (hMp2 : lp2.length ≤ 9223372036854775807) (hKp2 : lp2.length ≤ cp2) (N : Nat) (r : Bool) (hF : F10 N p0 lp1 lp2 = some r) : Does Try.prog 10 [.int .i64 p0, .slice Ap1 lp1.length cp1, .slice Ap2 lp2.length cp2] w0 fun v w => v = .bool r ∧ Below w0.heap.size w0 w := by
 refine calls_of (n := 203) Try.func10 rfl Try.ntmps10 rfl ?_
 have hI := Inv.start w0
 unfold F10 at hF
 refine wp_seq (rgn (by kernel_rfl) (pu (.bool false) (by kernel_rfl) (seq_nil (wp_seq (rgn (by kernel_rfl) (pu (iv p0) (by kernel_rfl) (pu (.slice Ap1 lp1.length cp1) (by kernel_rfl) (bindE hF (fun y2362 hy2363 hF => ?_)))))))))
 refine seq_c (s_call 60 [iv p0, .slice Ap1 lp1.length cp1] (by kernel_rfl) (L60 _ p0 Ap1 cp1 lp1 (hCp1.inv0 hI) hMp1 hKp1 N _ hy2363) ?_)
 rintro v w ⟨g2364, c2365, cl2366, rfl, hN, r2367⟩
 have hI := hI.join hN; clear hN
 refine seq_c (s_allocI hI [iv 0, .slice none 0 0] Try.zeroValue24 rfl ?_)
 intro b2368 w hI
 refine seq_c (s_store hI 0 2 [iv y2362.1, slv g2364 y2362.2.length c2365] Try.sizeOf24 rfl rfl rfl rfl rfl (Nat.le_of_ble_eq_true rfl) ?_)
 intro w hI
 refine seq_nil (wp_seq (rgn (by kernel_rfl) (seq_c (s_loadK hI 0 2 [iv y2362.1, slv g2364 y2362.2.length c2365] Try.isAgg24 Try.sizeOf24 rfl rfl rfl rfl ?_))))
 refine bindE hF (fun y2375 hy2376 hF => ?_)
 refine seq_c (s_call 40 [.agg #[iv y2362.1, slv g2364 y2362.2.length c2365]] (by kernel_rfl) (L40 _ y2362.1 (g2364.map fun b => ⟨b, 0, none⟩) c2365 y2362.2 (hI.rowCells 1 rfl r2367) (len_le rfl r2367.big) (len_le rfl r2367.cap) N _ hy2376) ?_)
 rintro v w ⟨g2377, c2378, cl2379, rfl, hN, r2380⟩
 have hI := hI.join hN; clear hN
 refine pu (.tuple #[slv g2377 y2375.1.length c2378, iv y2375.2]) (by kernel_rfl) (pu (slv g2377 y2375.1.length c2378) (by kernel_rfl) (pu (iv y2375.2) (by kernel_rfl) (pu (slv g2377 y2375.1.length c2378) (by kernel_rfl) (pu (iv y2375.2) (by kernel_rfl) (seq_nil (wp_seq (rgn (by kernel_rfl) (seq_c (s_loadK hI 1 2 [iv y2362.1, slv g2364 y2362.2.length c2365] Try.isAgg24 Try.sizeOf24 rfl rfl rfl rfl ?_)))))))))
 refine bindE hF (fun y2383 hy2384 hF => ?_)
 refine seq_c (s_callv hI 36 [.agg #[iv y2362.1, slv g2364 y2362.2.length c2365]] (.tuple #[iv y2383.1, iv y2383.2]) (by kernel_rfl) (L36 _ y2362.1 (g2364.map fun b => ⟨b, 0, none⟩) c2365 y2362.2 (hI.rowCells 2 rfl r2367) (len_le rfl r2367.big) (len_le rfl r2367.cap) N _ hy2384) ?_)
 intro w hI
 refine pu (.tuple #[iv y2383.1, iv y2383.2]) (by kernel_rfl) (pu (iv y2383.1) (by kernel_rfl) (pu (iv y2383.2) (by kernel_rfl) (pu (iv y2383.1) (by kernel_rfl) (pu (iv y2383.2) (by kernel_rfl) (seq_nil (wp_seq (rgn (by kernel_rfl) (seq_c (s_loadK hI 1 2 [iv y2362.1, slv g2364 y2362.2.length c2365] Try.isAgg24 Try.sizeOf24 rfl rfl rfl rfl ?_)))))))))
 refine bindE hF (fun y2391 hy2392 hF => ?_)
 refine seq_c (s_call 38 [.agg #[iv y2362.1, slv g2364 y2362.2.length c2365]] (by kernel_rfl) (L38 _ y2362.1 (g2364.map fun b => ⟨b, 0, none⟩) c2365 y2362.2 (hI.rowCells 2 rfl r2367) (len_le rfl r2367.big) (len_le rfl r2367.cap) N _ hy2392) ?_)
 rintro v w ⟨g2393, c2394, cl2395, rfl, hN, r2396⟩
 have hI := hI.join hN; clear hN
 refine pu (.tuple #[slv g2393 y2391.1.length c2394, iv y2391.2]) (by kernel_rfl) (pu (slv g2393 y2391.1.length c2394) (by kernel_rfl) (pu (iv y2391.2) (by kernel_rfl) (pu (slv g2393 y2391.1.length c2394) (by kernel_rfl) (pu (iv y2391.2) (by kernel_rfl) (seq_nil (wp_seq (wp_seq (rgn (by kernel_rfl) (pu (iv y2375.2) (by kernel_rfl) ?_)))))))))
 refine ifE hF (fun h503 hF => ?_) (fun h503 hF => ?_)
 ·
  refine seq_c (s_neq rfl rfl (fun h => absurd (a := y2375.2 = 0) h503 h) (fun _ => ?_))
  refine pu (.bool false) (by kernel_rfl) (puo (iv y2383.2) ⟨(by kernel_rfl), (by kernel_rfl)⟩ (ifE hF (fun h504 hF => ?_) (fun h504 hF => ?_)))
  ·
   refine seq_on (by kernel_rfl) (s_neq rfl rfl (fun h => absurd (a := y2383.2 = 0) h504 h) (fun _ => ?_))
   refine pu (.bool false) (by kernel_rfl) (pu (.bool false) (by kernel_rfl) (puo (iv y2391.2) ⟨(by kernel_rfl), (by kernel_rfl)⟩ (ifE hF (fun h505 hF => ?_) (fun h505 hF => ?_))))
   ·
    refine seq_on (by kernel_rfl) (s_neq rfl rfl (fun h => absurd (a := y2391.2 = 0) h505 h) (fun _ => ?_))
    refine pu (.bool false) (by kernel_rfl) (pu (.bool false) (by kernel_rfl) (puo (slv g2377 y2375.1.length c2378) ⟨(by kernel_rfl), (by kernel_rfl)⟩ (puo (iv ((y2375.1.length : Nat) : Int)) ⟨(by kernel_rfl), (by kernel_rfl)⟩ (puo (.pointer (some ⟨b2368, 0, none⟩)) ⟨(by kernel_rfl), (by kernel_rfl)⟩ (seq_on (by kernel_rfl) (s_load1 hI 2 (iv y2362.1) Try.isAgg3 rfl rfl rfl ?_))))))
    refine ifE hF (fun h506 hF => ?_) (fun h506 hF => ?_)
    ·
     refine seq_on (by kernel_rfl) (s_neq rfl rfl (fun h => absurd (a := (y2375.1.length : Int) = y2362.1) h506 h) (fun _ => ?_))
     refine pu (.bool false) (by kernel_rfl) (pu (.bool false) (by kernel_rfl) (puo (slv g2393 y2391.1.length c2394) ⟨(by kernel_rfl), (by kernel_rfl)⟩ (puo (iv ((y2391.1.length : Nat) : Int)) ⟨(by kernel_rfl), (by kernel_rfl)⟩ (puo (.pointer (some ⟨b2368, 1, none⟩)) ⟨(by kernel_rfl), (by kernel_rfl)⟩ (seq_on (by kernel_rfl) (s_load1 hI 2 (slv g2364 y2362.2.length c2365) Try.isAgg22 rfl rfl rfl ?_))))))
     refine puo (iv ((y2362.2.length : Nat) : Int)) ⟨(by kernel_rfl), (by kernel_rfl)⟩ (ifE hF (fun h507 hF => ?_) (fun h507 hF => ?_))
     ·
      refine seq_on (by kernel_rfl) (s_neq rfl rfl (fun h => absurd (a := (y2391.1.length : Int) = (y2362.2.length : Int)) h507 h) (fun _ => ?_))
      refine pu (.bool false) (by kernel_rfl) (pu (.bool false) (by kernel_rfl) (seq_on (by kernel_rfl) (s_loadK hI 2 2 [iv y2362.1, slv g2364 y2362.2.length c2365] Try.isAgg24 Try.sizeOf24 rfl rfl rfl rfl ?_)))
      refine puo (slv g2377 y2375.1.length c2378) ⟨(by kernel_rfl), (by kernel_rfl)⟩ (bindE hF (fun y2403 hy2404 hF => ?_))
      refine seq_on (by kernel_rfl) (s_callv hI 42 [.agg #[iv y2362.1, slv g2364 y2362.2.length c2365], slv g2377 y2375.1.length c2378] (iv y2403) (by kernel_rfl) (L42 _ y2362.1 (g2364.map fun b => ⟨b, 0, none⟩) c2365 y2362.2 (g2377.map fun b => ⟨b, 0, none⟩) c2378 y2375.1 (hI.rowCells 3 rfl r2367) (len_le rfl r2367.big) (len_le rfl r2367.cap) (hI.rowCells 1 rfl r2380) (len_le rfl r2380.big) (len_le rfl r2380.cap) N _ hy2404) ?_)
      intro w hI
      refine ifE hF (fun h508 hF => ?_) (fun h508 hF => ?_)
      ·
       refine seq_on (by kernel_rfl) (s_neq rfl rfl (fun h => absurd (a := y2403 = 0) h508 h) (fun _ => ?_))
       refine pu (.bool false) (by kernel_rfl) (seq_nil (wp_condF rfl (wp_skip (wp_seq (rgn (by kernel_rfl) (pu (.bool true) (by kernel_rfl) (seq_nil (wp_seq (rgn (by kernel_rfl) ?_)))))))))
       refine pu (slv g2393 y2391.1.length c2394) (by kernel_rfl) (pu (iv ((y2391.1.length : Nat) : Int)) (by kernel_rfl) (gdE hF (fun h511 hF => ?_)))
       refine gdE hF (fun h512 hF => ?_)
       refine seq_c (s_makeRowN hI (enc := eInt) eInt_len (by decide) ((0 : Int)) Try.underlying49 (z := iv 0) (k := 1) (bytes := 8) (by kernel_rfl) rfl ((y2391.1.length : Int)).toNat (congrArg (Value.int .i64) (Int.toNat_of_nonneg h511).symm) (congrArg (Value.int .i64) (Int.toNat_of_nonneg h511).symm) (by omega) (by decide) ?_)
       intro b2408 cl2409 w hI r2410
       refine pu (slv (some b2408) ((List.replicate ((y2391.1.length : Int)).toNat (0 : Int)).length) (((y2391.1.length : Int)).toNat)) (by kernel_rfl) (seq_nil (wp_cutO (fun ρ w => ∃ (g3007 : Option Nat) (c3008 : Nat) (cl3009 : List Value) (g3011 : Option Nat) (c3012 : Nat) (cl3013 : List Value) (g3017 : Option Nat) (c3018 : Nat) (cl3019 : List Value) (v3015 : Bool) (u3016 : List Int), Agree ρ [(2, .slice Ap2 lp2.length cp2), (7, .pointer (some ⟨b2368, 0, none⟩)), (10, iv y2383.1), (12, slv g3011 y2391.1.length c3012), (14, .bool v3015), (15, slv g3017 u3016.length c3018)] ∧ Inv [] w0 w [(some b2368, blk [iv y2362.1, slv g3007 y2362.2.length c3008] 24), (g3007, blk cl3009 26), (g3011, blk cl3013 3), (g3017, blk cl3019 3)] ∧ (Row 3 g3007 (y2362.2.length) c3008 cl3009 (flat eCm y2362.2)) ∧ (Row 1 g3011 (y2391.1.length) c3012 cl3013 (flat eInt y2391.1)) ∧ (Row 1 g3017 (u3016.length) c3018 cl3019 (flat eInt u3016)) ∧ F10j1 lp2 N y2362 y2383 y2391 v3015 u3016 = some r) ?_ ?_))
       ·
        refine wp_seq (rgn (by kernel_rfl) (pu (iv 0) (by kernel_rfl) (seq_nil (wp_block ?_))))
        refine wp_loop (fun m ρ w => ∃ (g4504 : Option Nat) (c4505 : Nat) (cl4506 : List Value) (g4508 : Option Nat) (c4509 : Nat) (cl4510 : List Value) (g4514 : Option Nat) (c4515 : Nat) (cl4516 : List Value) (v4512 : Bool) (u4513 : List Int) (v4518 : Int) (mm : Nat), Agree ρ [(2, .slice Ap2 lp2.length cp2), (7, .pointer (some ⟨b2368, 0, none⟩)), (8, slv g2377 y2375.1.length c2378), (10, iv y2383.1), (12, slv g4508 y2391.1.length c4509), (14, .bool v4512), (15, slv g4514 u4513.length c4515), (16, iv v4518)] ∧ Inv [] w0 w [(some b2368, blk [iv y2362.1, slv g4504 y2362.2.length c4505] 24), (g4504, blk cl4506 26), (g2377, blk cl2379 3), (g4508, blk cl4510 3), (g4514, blk cl4516 3)] ∧ (Row 3 g4504 (y2362.2.length) c4505 cl4506 (flat eCm y2362.2)) ∧ (Row 1 g4508 (y2391.1.length) c4509 cl4510 (flat eInt y2391.1)) ∧ (Row 1 g4514 (u4513.length) c4515 cl4516 (flat eInt u4513)) ∧ F10l7 lp2 N y2362 y2375 y2383 y2391 mm v4512 u4513 v4518 = some r ∧ mm = m) (m := N) ⟨g2364, c2365, cl2366, g2393, c2394, cl2395, some b2408, ((y2391.1.length : Int)).toNat, cl2409, true, List.replicate ((y2391.1.length : Int)).toNat (0 : Int), 0, N, ⟨rfl, rfl, rfl, rfl, rfl, rfl, rfl, rfl, trivial⟩, hI.pickL [3, 4, 2, 1, 0] (by decide) rfl, (r2367.to rfl rfl), (r2396.to rfl rfl), (r2410.to rfl rfl), hF, rfl⟩ ?_
        rintro m ρ w ⟨g4504, c4505, cl4506, g4508, c4509, cl4510, g4514, c4515, cl4516, v4512, u4513, v4518, mm, hag, hI, r4507, r4511, r4517, hF, hm⟩
        subst hm; obtain ⟨ρ, rfl⟩ := hag.form; clear hag
        obtain _ | m7 := mm
        ·cases (show (none : Option Bool) = some r from hF)
        replace hF : F10b7 lp2 N y2362 y2375 y2383 y2391 (F10l7 lp2 N y2362 y2375 y2383 y2391 m7) v4512 u4513 v4518 = some r := hF; unfold F10b7 at hF
        refine wp_seq (wp_seq (rgn (by kernel_rfl) (pu (iv v4518) (by kernel_rfl) (pu (slv g4508 y2391.1.length c4509) (by kernel_rfl) (pu (iv ((y2391.1.length : Nat) : Int)) (by kernel_rfl) (ifE hF (fun h935 hF => ?_) (fun h935 hF => ?_)))))))
        ·
         refine seq_c (s_lss rfl rfl (fun _ => ?_) (fun h => absurd (a := v4518 < (y2391.1.length : Int)) h935 h))
         refine seq_nil (wp_condT rfl (wp_skip (wp_cutO (fun ρ w => ∃ (g4607 : Option Nat) (c4608 : Nat) (cl4609 : List Value) (g4611 : Option Nat) (c4612 : Nat) (cl4613 : List Value) (g4617 : Option Nat) (c4618 : Nat) (cl4619 : List Value) (v4615 : Bool) (u4616 : List Int), Agree ρ [(2, .slice Ap2 lp2.length cp2), (7, .pointer (some ⟨b2368, 0, none⟩)), (8, slv g2377 y2375.1.length c2378), (10, iv y2383.1), (12, slv g4611 y2391.1.length c4612), (14, .bool v4615), (15, slv g4617 u4616.length c4618), (16, iv v4518)] ∧ Inv [] w0 w [(some b2368, blk [iv y2362.1, slv g4607 y2362.2.length c4608] 24), (g4607, blk cl4609 26), (g2377, blk cl2379 3), (g4611, blk cl4613 3), (g4617, blk cl4619 3)] ∧ (Row 3 g4607 (y2362.2.length) c4608 cl4609 (flat eCm y2362.2)) ∧ (Row 1 g4611 (y2391.1.length) c4612 cl4613 (flat eInt y2391.1)) ∧ (Row 1 g4617 (u4616.length) c4618 cl4619 (flat eInt u4616)) ∧ F10j8 (F10l7 lp2 N y2362 y2375 y2383 y2391 m7) v4518 v4615 u4616 = some r) ?_ ?_)))
         ·
          refine wp_block ?_
          refine wp_seq (rgn (by kernel_rfl) (pu (.pointer (some ⟨b2368, 1, none⟩)) (by kernel_rfl) (seq_c (s_load1 hI 0 (slv g4504 y2362.2.length c4505) Try.isAgg22 rfl rfl rfl ?_))))
          refine pu (iv v4518) (by kernel_rfl) (gdE hF (fun h953 hF => ?_))
          refine bindE hF (fun x4621 hx4622 hF => ?_)
          obtain ⟨b4623, rfl, he4624⟩ := r4507.at_ eCm_len (by decide) hx4622
          refine seq_c (s_indexR (v4518).toNat Try.underlying22 Try.sizeOf26 rfl rfl (Int.toNat_of_nonneg h953).symm (lt_n hx4622 rfl) ?_)
          refine seq_c (s_loadRK hI 1 [iv x4621.fam, iv x4621.hrs, iv x4621.wants] Try.isAgg26 Try.sizeOf26 rfl rfl rfl he4624 ?_)
          refine seq_c (s_allocI hI [iv 0, iv 0, iv 0] Try.zeroValue26 rfl ?_)
          intro b4625 w hI
          refine seq_c (s_store hI 0 3 [iv x4621.fam, iv x4621.hrs, iv x4621.wants] Try.sizeOf26 rfl rfl rfl rfl rfl (Nat.le_of_ble_eq_true rfl) ?_)
          intro w hI
          refine seq_nil (wp_seq (wp_seq (bindE hF (fun y4676 hy4677 hF => ?_))))
          refine bindE hF (fun x4678 hx4679 hF => ?_)
          refine ifE hF (fun h963 hF => ?_) (fun h963 hF => ?_)
          ·
           refine ifE hF (fun h964 hF => ?_) (fun h964 hF => ?_)
           ·
            refine wp_drawn2 hI [0, 1, 2, 3, 4, 5] (by decide) rfl (by kernel_rfl) (by kernel_rfl) ?_
            intro hsub
            refine alp 0 (slv g2377 y2375.1.length c2378) hsub rfl (by kernel_rfl) (fun _ => (by kernel_rfl)) ?_
            refine alp 1 (.pointer (some ⟨b4625, 0, none⟩)) hsub rfl (by kernel_rfl) (fun _ => (by kernel_rfl)) ?_
            refine al_light 2 (iv x4621.fam) hsub rfl (by kernel_rfl) (fun w hI => s_load1 hI 0 (iv x4621.fam) Try.isAgg3 rfl rfl rfl ⟨rfl, Below.refl _ _⟩) ?_
            refine al_light 3 (iv y4676) hsub rfl (by kernel_rfl) (fun w hI => s_call 61 [slv g2377 y2375.1.length c2378, iv x4621.fam] (by kernel_rfl) (L61 _ (g2377.map fun b => ⟨b, 0, none⟩) c2378 y2375.1 x4621.fam (hI.rowCells 3 rfl r2380) (len_le rfl r2380.big) (len_le rfl r2380.cap) N _ hy4677) (fun v' w' h => h)) ?_
            refine alp 4 (slv g4508 y2391.1.length c4509) hsub rfl (by kernel_rfl) (fun _ => (by kernel_rfl)) ?_
            refine alp 5 (iv v4518) hsub rfl (by kernel_rfl) (fun _ => (by kernel_rfl)) ?_
            obtain ⟨b4682, rfl, he4683⟩ := r4511.at_ eInt_len (by decide) hx4679
            refine al_light 6 (.pointer (some ⟨b4682, (v4518).toNat * 1, none⟩)) hsub rfl (by kernel_rfl) (fun w hI => s_indexR (v4518).toNat Try.underlying49 Try.sizeOf3 rfl rfl (Int.toNat_of_nonneg h953).symm (lt_n hx4679 rfl) ⟨rfl, Below.refl _ _⟩) ?_
            refine al_light 7 (iv x4678) hsub rfl (by kernel_rfl) (fun w hI => s_loadR1 hI 4 (iv x4678) Try.isAgg3 rfl rfl (he4683 0 _ rfl) ⟨rfl, Below.refl _ _⟩) ?_
            refine al_light 8 (.bool false) hsub rfl (by kernel_rfl) (fun w hI => s_neq rfl rfl (fun h => absurd (a := y4676 = x4678) h963 h) (fun _ => ⟨rfl, Below.refl _ _⟩)) ?_
            refine alp 9 (.bool false) hsub rfl (by kernel_rfl) (fun _ => (by kernel_rfl)) ?_
            refine al_on 10 (slv (some b4682) y2391.1.length c4509) hsub rfl (by kernel_rfl) (by kernel_rfl) (fun w hI => s_pure (slv (some b4682) y2391.1.length c4509) (by kernel_rfl) ⟨rfl, Below.refl _ _⟩) ?_
            refine al_on 11 (iv v4518) hsub rfl (by kernel_rfl) (by kernel_rfl) (fun w hI => s_pure (iv v4518) (by kernel_rfl) ⟨rfl, Below.refl _ _⟩) ?_
            refine al_on 12 (.pointer (some ⟨b4682, (v4518).toNat * 1, none⟩)) hsub rfl (by kernel_rfl) (by kernel_rfl) (fun w hI => s_indexR (v4518).toNat Try.underlying49 Try.sizeOf3 rfl rfl (Int.toNat_of_nonneg h953).symm (lt_n hx4679 rfl) ⟨rfl, Below.refl _ _⟩) ?_
            refine al_on 13 (iv x4678) hsub rfl (by kernel_rfl) (by kernel_rfl) (fun w hI => s_loadR1 hI 4 (iv x4678) Try.isAgg3 rfl rfl (he4683 0 _ rfl) ⟨rfl, Below.refl _ _⟩) ?_
            refine al_on 14 (iv y2383.1) hsub rfl (by kernel_rfl) (by kernel_rfl) (fun w hI => s_pure (iv y2383.1) (by kernel_rfl) ⟨rfl, Below.refl _ _⟩) ?_
            refine al_on 15 (.pointer (some ⟨b4625, 2, none⟩)) hsub rfl (by kernel_rfl) (by kernel_rfl) (fun w hI => s_pure (.pointer (some ⟨b4625, 2, none⟩)) (by kernel_rfl) ⟨rfl, Below.refl _ _⟩) ?_
            refine al_on 16 (iv x4621.wants) hsub rfl (by kernel_rfl) (by kernel_rfl) (fun w hI => s_load1 hI 0 (iv x4621.wants) Try.isAgg3 rfl rfl rfl ⟨rfl, Below.refl _ _⟩) ?_
            refine al_on 17 (iv (if x4621.wants < y2383.1 then x4621.wants else y2383.1)) hsub rfl (by kernel_rfl) (by kernel_rfl) (fun w hI => s_pure (iv (if x4621.wants < y2383.1 then x4621.wants else y2383.1)) (by kernel_rfl) ⟨rfl, Below.refl _ _⟩) ?_
            refine al_on 18 (.bool true) hsub rfl (by kernel_rfl) (by kernel_rfl) (fun w hI => s_lss rfl rfl (fun _ => ⟨rfl, Below.refl _ _⟩) (fun h => absurd (a := x4678 < (if x4621.wants < y2383.1 then x4621.wants else y2383.1)) h964 h)) ?_
            refine alp 19 (.bool true) hsub rfl (by kernel_rfl) (fun _ => (by kernel_rfl)) ?_
            refine alp 20 (.bool true) hsub rfl (by kernel_rfl) (fun _ => (by kernel_rfl)) ?_
            refine al_off 21 hsub rfl (by kernel_rfl) (by kernel_rfl) ?_
            refine al_off 22 hsub rfl (by kernel_rfl) (by kernel_rfl) ?_
            refine al_off 23 hsub rfl (by kernel_rfl) (by kernel_rfl) ?_
            refine al_off 24 hsub rfl (by kernel_rfl) (by kernel_rfl) ?_
            refine al_off 25 hsub rfl (by kernel_rfl) (by kernel_rfl) ?_
            refine al_off 26 hsub rfl (by kernel_rfl) (by kernel_rfl) ?_
            refine al_off 27 hsub rfl (by kernel_rfl) (by kernel_rfl) ?_
            refine alp 28 (.bool true) hsub rfl (by kernel_rfl) (fun _ => (by kernel_rfl)) ?_
            refine any_end (by kernel_rfl) (fun w hI => ?_)
            refine wp_condT rfl (wp_seq (rgn (by kernel_rfl) (pu (.bool false) (by kernel_rfl) (seq_nil (wp_ret ?_)))))
            replace hF := Option.some.inj hF; subst hF
            exact ⟨.bool false, Ret.r1 rfl rfl, ⟨rfl, hI.below⟩⟩
           ·
            refine ifE hF (fun h965 hF => ?_) (fun h965 hF => ?_)
            ·
             refine wp_drawn2 hI [0, 1, 2, 3, 4, 5] (by decide) rfl (by kernel_rfl) (by kernel_rfl) ?_
             intro hsub
             refine alp 0 (slv g2377 y2375.1.length c2378) hsub rfl (by kernel_rfl) (fun _ => (by kernel_rfl)) ?_
             refine alp 1 (.pointer (some ⟨b4625, 0, none⟩)) hsub rfl (by kernel_rfl) (fun _ => (by kernel_rfl)) ?_
             refine al_light 2 (iv x4621.fam) hsub rfl (by kernel_rfl) (fun w hI => s_load1 hI 0 (iv x4621.fam) Try.isAgg3 rfl rfl rfl ⟨rfl, Below.refl _ _⟩) ?_
             refine al_light 3 (iv y4676) hsub rfl (by kernel_rfl) (fun w hI => s_call 61 [slv g2377 y2375.1.length c2378, iv x4621.fam] (by kernel_rfl) (L61 _ (g2377.map fun b => ⟨b, 0, none⟩) c2378 y2375.1 x4621.fam (hI.rowCells 3 rfl r2380) (len_le rfl r2380.big) (len_le rfl r2380.cap) N _ hy4677) (fun v' w' h => h)) ?_
             refine alp 4 (slv g4508 y2391.1.length c4509) hsub rfl (by kernel_rfl) (fun _ => (by kernel_rfl)) ?_
             refine alp 5 (iv v4518) hsub rfl (by kernel_rfl) (fun _ => (by kernel_rfl)) ?_
             obtain ⟨b4684, rfl, he4685⟩ := r4511.at_ eInt_len (by decide) hx4679
             refine al_light 6 (.pointer (some ⟨b4684, (v4518).toNat * 1, none⟩)) hsub rfl (by kernel_rfl) (fun w hI => s_indexR (v4518).toNat Try.underlying49 Try.sizeOf3 rfl rfl (Int.toNat_of_nonneg h953).symm (lt_n hx4679 rfl) ⟨rfl, Below.refl _ _⟩) ?_
             refine al_light 7 (iv x4678) hsub rfl (by kernel_rfl) (fun w hI => s_loadR1 hI 4 (iv x4678) Try.isAgg3 rfl rfl (he4685 0 _ rfl) ⟨rfl, Below.refl _ _⟩) ?_
             refine al_light 8 (.bool false) hsub rfl (by kernel_rfl) (fun w hI => s_neq rfl rfl (fun h => absurd (a := y4676 = x4678) h963 h) (fun _ => ⟨rfl, Below.refl _ _⟩)) ?_
             refine alp 9 (.bool false) hsub rfl (by kernel_rfl) (fun _ => (by kernel_rfl)) ?_
             refine al_on 10 (slv (some b4684) y2391.1.length c4509) hsub rfl (by kernel_rfl) (by kernel_rfl) (fun w hI => s_pure (slv (some b4684) y2391.1.length c4509) (by kernel_rfl) ⟨rfl, Below.refl _ _⟩) ?_
             refine al_on 11 (iv v4518) hsub rfl (by kernel_rfl) (by kernel_rfl) (fun w hI => s_pure (iv v4518) (by kernel_rfl) ⟨rfl, Below.refl _ _⟩) ?_
             refine al_on 12 (.pointer (some ⟨b4684, (v4518).toNat * 1, none⟩)) hsub rfl (by kernel_rfl) (by kernel_rfl) (fun w hI => s_indexR (v4518).toNat Try.underlying49 Try.sizeOf3 rfl rfl (Int.toNat_of_nonneg h953).symm (lt_n hx4679 rfl) ⟨rfl, Below.refl _ _⟩) ?_
             refine al_on 13 (iv x4678) hsub rfl (by kernel_rfl) (by kernel_rfl) (fun w hI => s_loadR1 hI 4 (iv x4678) Try.isAgg3 rfl rfl (he4685 0 _ rfl) ⟨rfl, Below.refl _ _⟩) ?_
             refine al_on 14 (iv y2383.1) hsub rfl (by kernel_rfl) (by kernel_rfl) (fun w hI => s_pure (iv y2383.1) (by kernel_rfl) ⟨rfl, Below.refl _ _⟩) ?_
             refine al_on 15 (.pointer (some ⟨b4625, 2, none⟩)) hsub rfl (by kernel_rfl) (by kernel_rfl) (fun w hI => s_pure (.pointer (some ⟨b4625, 2, none⟩)) (by kernel_rfl) ⟨rfl, Below.refl _ _⟩) ?_
             refine al_on 16 (iv x4621.wants) hsub rfl (by kernel_rfl) (by kernel_rfl) (fun w hI => s_load1 hI 0 (iv x4621.wants) Try.isAgg3 rfl rfl rfl ⟨rfl, Below.refl _ _⟩) ?_
             refine al_on 17 (iv (if x4621.wants < y2383.1 then x4621.wants else y2383.1)) hsub rfl (by kernel_rfl) (by kernel_rfl) (fun w hI => s_pure (iv (if x4621.wants < y2383.1 then x4621.wants else y2383.1)) (by kernel_rfl) ⟨rfl, Below.refl _ _⟩) ?_
             refine al_on 18 (.bool false) hsub rfl (by kernel_rfl) (by kernel_rfl) (fun w hI => s_lss rfl rfl (fun h => absurd (a := x4678 < (if x4621.wants < y2383.1 then x4621.wants else y2383.1)) h h964) (fun _ => ⟨rfl, Below.refl _ _⟩)) ?_
             refine alp 19 (.bool false) hsub rfl (by kernel_rfl) (fun _ => (by kernel_rfl)) ?_
             refine alp 20 (.bool false) hsub rfl (by kernel_rfl) (fun _ => (by kernel_rfl)) ?_
             refine al_on 21 (slv (some b4684) y2391.1.length c4509) hsub rfl (by kernel_rfl) (by kernel_rfl) (fun w hI => s_pure (slv (some b4684) y2391.1.length c4509) (by kernel_rfl) ⟨rfl, Below.refl _ _⟩) ?_
             refine al_on 22 (iv v4518) hsub rfl (by kernel_rfl) (by kernel_rfl) (fun w hI => s_pure (iv v4518) (by kernel_rfl) ⟨rfl, Below.refl _ _⟩) ?_
             refine al_on 23 (.pointer (some ⟨b4684, (v4518).toNat * 1, none⟩)) hsub rfl (by kernel_rfl) (by kernel_rfl) (fun w hI => s_indexR (v4518).toNat Try.underlying49 Try.sizeOf3 rfl rfl (Int.toNat_of_nonneg h953).symm (lt_n hx4679 rfl) ⟨rfl, Below.refl _ _⟩) ?_
             refine al_on 24 (iv x4678) hsub rfl (by kernel_rfl) (by kernel_rfl) (fun w hI => s_loadR1 hI 4 (iv x4678) Try.isAgg3 rfl rfl (he4685 0 _ rfl) ⟨rfl, Below.refl _ _⟩) ?_
             refine al_on 25 (.pointer (some ⟨b4625, 2, none⟩)) hsub rfl (by kernel_rfl) (by kernel_rfl) (fun w hI => s_pure (.pointer (some ⟨b4625, 2, none⟩)) (by kernel_rfl) ⟨rfl, Below.refl _ _⟩) ?_
             refine al_on 26 (iv x4621.wants) hsub rfl (by kernel_rfl) (by kernel_rfl) (fun w hI => s_load1 hI 0 (iv x4621.wants) Try.isAgg3 rfl rfl rfl ⟨rfl, Below.refl _ _⟩) ?_
             refine al_on 27 (.bool true) hsub rfl (by kernel_rfl) (by kernel_rfl) (fun w hI => s_gtr rfl rfl (fun _ => ⟨rfl, Below.refl _ _⟩) (fun h => absurd (a := x4621.wants < x4678) h965 h)) ?_
             refine alp 28 (.bool true) hsub rfl (by kernel_rfl) (fun _ => (by kernel_rfl)) ?_
             refine any_end (by kernel_rfl) (fun w hI => ?_)
             refine wp_condT rfl (wp_seq (rgn (by kernel_rfl) (pu (.bool false) (by kernel_rfl) (seq_nil (wp_ret ?_)))))
             replace hF := Option.some.inj hF; subst hF
             exact ⟨.bool false, Ret.r1 rfl rfl, ⟨rfl, hI.below⟩⟩
            ·
             refine wp_drawn2 hI [0, 1, 2, 3, 4, 5] (by decide) rfl (by kernel_rfl) (by kernel_rfl) ?_
             intro hsub
             refine alp 0 (slv g2377 y2375.1.length c2378) hsub rfl (by kernel_rfl) (fun _ => (by kernel_rfl)) ?_
             refine alp 1 (.pointer (some ⟨b4625, 0, none⟩)) hsub rfl (by kernel_rfl) (fun _ => (by kernel_rfl)) ?_
             refine al_light 2 (iv x4621.fam) hsub rfl (by kernel_rfl) (fun w hI => s_load1 hI 0 (iv x4621.fam) Try.isAgg3 rfl rfl rfl ⟨rfl, Below.refl _ _⟩) ?_
             refine al_light 3 (iv y4676) hsub rfl (by kernel_rfl) (fun w hI => s_call 61 [slv g2377 y2375.1.length c2378, iv x4621.fam] (by kernel_rfl) (L61 _ (g2377.map fun b => ⟨b, 0, none⟩) c2378 y2375.1 x4621.fam (hI.rowCells 3 rfl r2380) (len_le rfl r2380.big) (len_le rfl r2380.cap) N _ hy4677) (fun v' w' h => h)) ?_
             refine alp 4 (slv g4508 y2391.1.length c4509) hsub rfl (by kernel_rfl) (fun _ => (by kernel_rfl)) ?_
             refine alp 5 (iv v4518) hsub rfl (by kernel_rfl) (fun _ => (by kernel_rfl)) ?_
             obtain ⟨b4686, rfl, he4687⟩ := r4511.at_ eInt_len (by decide) hx4679
             refine al_light 6 (.pointer (some ⟨b4686, (v4518).toNat * 1, none⟩)) hsub rfl (by kernel_rfl) (fun w hI => s_indexR (v4518).toNat Try.underlying49 Try.sizeOf3 rfl rfl (Int.toNat_of_nonneg h953).symm (lt_n hx4679 rfl) ⟨rfl, Below.refl _ _⟩) ?_
             refine al_light 7 (iv x4678) hsub rfl (by kernel_rfl) (fun w hI => s_loadR1 hI 4 (iv x4678) Try.isAgg3 rfl rfl (he4687 0 _ rfl) ⟨rfl, Below.refl _ _⟩) ?_
             refine al_light 8 (.bool false) hsub rfl (by kernel_rfl) (fun w hI => s_neq rfl rfl (fun h => absurd (a := y4676 = x4678) h963 h) (fun _ => ⟨rfl, Below.refl _ _⟩)) ?_
             refine alp 9 (.bool false) hsub rfl (by kernel_rfl) (fun _ => (by kernel_rfl)) ?_
             refine al_on 10 (slv (some b4686) y2391.1.length c4509) hsub rfl (by kernel_rfl) (by kernel_rfl) (fun w hI => s_pure (slv (some b4686) y2391.1.length c4509) (by kernel_rfl) ⟨rfl, Below.refl _ _⟩) ?_
             refine al_on 11 (iv v4518) hsub rfl (by kernel_rfl) (by kernel_rfl) (fun w hI => s_pure (iv v4518) (by kernel_rfl) ⟨rfl, Below.refl _ _⟩) ?_
             refine al_on 12 (.pointer (some ⟨b4686, (v4518).toNat * 1, none⟩)) hsub rfl (by kernel_rfl) (by kernel_rfl) (fun w hI => s_indexR (v4518).toNat Try.underlying49 Try.sizeOf3 rfl rfl (Int.toNat_of_nonneg h953).symm (lt_n hx4679 rfl) ⟨rfl, Below.refl _ _⟩) ?_
             refine al_on 13 (iv x4678) hsub rfl (by kernel_rfl) (by kernel_rfl) (fun w hI => s_loadR1 hI 4 (iv x4678) Try.isAgg3 rfl rfl (he4687 0 _ rfl) ⟨rfl, Below.refl _ _⟩) ?_
             refine al_on 14 (iv y2383.1) hsub rfl (by kernel_rfl) (by kernel_rfl) (fun w hI => s_pure (iv y2383.1) (by kernel_rfl) ⟨rfl, Below.refl _ _⟩) ?_
             refine al_on 15 (.pointer (some ⟨b4625, 2, none⟩)) hsub rfl (by kernel_rfl) (by kernel_rfl) (fun w hI => s_pure (.pointer (some ⟨b4625, 2, none⟩)) (by kernel_rfl) ⟨rfl, Below.refl _ _⟩) ?_
             refine al_on 16 (iv x4621.wants) hsub rfl (by kernel_rfl) (by kernel_rfl) (fun w hI => s_load1 hI 0 (iv x4621.wants) Try.isAgg3 rfl rfl rfl ⟨rfl, Below.refl _ _⟩) ?_
             refine al_on 17 (iv (if x4621.wants < y2383.1 then x4621.wants else y2383.1)) hsub rfl (by kernel_rfl) (by kernel_rfl) (fun w hI => s_pure (iv (if x4621.wants < y2383.1 then x4621.wants else y2383.1)) (by kernel_rfl) ⟨rfl, Below.refl _ _⟩) ?_
             refine al_on 18 (.bool false) hsub rfl (by kernel_rfl) (by kernel_rfl) (fun w hI => s_lss rfl rfl (fun h => absurd (a := x4678 < (if x4621.wants < y2383.1 then x4621.wants else y2383.1)) h h964) (fun _ => ⟨rfl, Below.refl _ _⟩)) ?_
             refine alp 19 (.bool false) hsub rfl (by kernel_rfl) (fun _ => (by kernel_rfl)) ?_
             refine alp 20 (.bool false) hsub rfl (by kernel_rfl) (fun _ => (by kernel_rfl)) ?_
             refine al_on 21 (slv (some b4686) y2391.1.length c4509) hsub rfl (by kernel_rfl) (by kernel_rfl) (fun w hI => s_pure (slv (some b4686) y2391.1.length c4509) (by kernel_rfl) ⟨rfl, Below.refl _ _⟩) ?_
             refine al_on 22 (iv v4518) hsub rfl (by kernel_rfl) (by kernel_rfl) (fun w hI => s_pure (iv v4518) (by kernel_rfl) ⟨rfl, Below.refl _ _⟩) ?_
             refine al_on 23 (.pointer (some ⟨b4686, (v4518).toNat * 1, none⟩)) hsub rfl (by kernel_rfl) (by kernel_rfl) (fun w hI => s_indexR (v4518).toNat Try.underlying49 Try.sizeOf3 rfl rfl (Int.toNat_of_nonneg h953).symm (lt_n hx4679 rfl) ⟨rfl, Below.refl _ _⟩) ?_
             refine al_on 24 (iv x4678) hsub rfl (by kernel_rfl) (by kernel_rfl) (fun w hI => s_loadR1 hI 4 (iv x4678) Try.isAgg3 rfl rfl (he4687 0 _ rfl) ⟨rfl, Below.refl _ _⟩) ?_
             refine al_on 25 (.pointer (some ⟨b4625, 2, none⟩)) hsub rfl (by kernel_rfl) (by kernel_rfl) (fun w hI => s_pure (.pointer (some ⟨b4625, 2, none⟩)) (by kernel_rfl) ⟨rfl, Below.refl _ _⟩) ?_
             refine al_on 26 (iv x4621.wants) hsub rfl (by kernel_rfl) (by kernel_rfl) (fun w hI => s_load1 hI 0 (iv x4621.wants) Try.isAgg3 rfl rfl rfl ⟨rfl, Below.refl _ _⟩) ?_
             refine al_on 27 (.bool false) hsub rfl (by kernel_rfl) (by kernel_rfl) (fun w hI => s_gtr rfl rfl (fun h => absurd (a := x4621.wants < x4678) h h965) (fun _ => ⟨rfl, Below.refl _ _⟩)) ?_
             refine alp 28 (.bool false) hsub rfl (by kernel_rfl) (fun _ => (by kernel_rfl)) ?_
             refine any_end (by kernel_rfl) (fun w hI => ?_)
             refine wp_condF rfl (wp_skip (wp_seq (rgn (by kernel_rfl) (pu (slv g4514 u4513.length c4515) (by kernel_rfl) (pu (iv v4518) (by kernel_rfl) (pu (iv y2383.1) (by kernel_rfl) (ckE hF (fun h967 hF => ?_))))))))
             refine seq_c (s_add rfl rfl h967 ?_)
             refine pu (.pointer (some ⟨b4625, 2, none⟩)) (by kernel_rfl) (seq_c (s_load1 hI 0 (iv x4621.wants) Try.isAgg3 rfl rfl rfl ?_))
             refine pu (iv (if x4621.wants < (y2383.1 + 1) then x4621.wants else (y2383.1 + 1))) (by kernel_rfl) (bindE hF (fun x4694 hx4695 hF => ?_))
             obtain ⟨b4696, rfl, he4697⟩ := r4517.at_ eInt_len (by decide) hx4695
             refine seq_c (s_indexR (v4518).toNat Try.underlying49 Try.sizeOf3 rfl rfl (Int.toNat_of_nonneg h953).symm (lt_n hx4695 rfl) ?_)
             have := lt_n hx4695 rfl
             refine seq_c (s_store hI 5 1 [iv (if x4621.wants < (y2383.1 + 1) then x4621.wants else (y2383.1 + 1))] Try.sizeOf3 rfl rfl rfl rfl rfl (r4517.room (by omega)) ?_)
             intro w hI
             have r4698 := r4517.put eInt_len (by decide) (v4518).toNat (if x4621.wants < (y2383.1 + 1) then x4621.wants else (y2383.1 + 1)) (by omega)
             obtain ⟨cl4699, hcl⟩ : ∃ z, z = putCells cl4516 ((v4518).toNat * 1) (eInt (if x4621.wants < (y2383.1 + 1) then x4621.wants else (y2383.1 + 1))) := ⟨_, rfl⟩
             rw [← hcl] at r4698
             have hI : Inv [] w0 w [(some b4625, blk [iv x4621.fam, iv x4621.hrs, iv x4621.wants] 26), (some b2368, blk [iv y2362.1, slv (some b4623) y2362.2.length c4505] 24), (some b4623, blk cl4506 26), (g2377, blk cl2379 3), (some b4686, blk cl4510 3), (some b4696, blk cl4699 3)] := by rw [hcl]; exact hI
             clear hcl
             refine seq_nil ?_
             have hG := hF; rcases Bool.eq_false_or_eq_true v4512 with rfl | rfl
             ·
              have hF := hG; clear hG
              refine ifE hF (fun _ hF => ?_) (fun h => absurd rfl h)
              refine bindE hF (fun y4700 hy4701 hF => ?_)
              refine bindE hF (fun x4702 hx4703 hF => ?_)
              refine ifE hF (fun h968 hF => ?_) (fun h968 hF => ?_)
              ·
               refine wp_drawn2 hI [0, 1, 2, 3, 4, 5] (by decide) rfl (by kernel_rfl) (by kernel_rfl) ?_
               intro hsub
               refine alp 0 (.bool true) hsub rfl (by kernel_rfl) (fun _ => (by kernel_rfl)) ?_
               refine alp 1 (.bool true) hsub rfl (by kernel_rfl) (fun _ => (by kernel_rfl)) ?_
               refine al_on 2 (.slice Ap2 lp2.length cp2) hsub rfl (by kernel_rfl) (by kernel_rfl) (fun w hI => s_pure (.slice Ap2 lp2.length cp2) (by kernel_rfl) ⟨rfl, Below.refl _ _⟩) ?_
               refine al_on 3 (.pointer (some ⟨b4625, 0, none⟩)) hsub rfl (by kernel_rfl) (by kernel_rfl) (fun w hI => s_pure (.pointer (some ⟨b4625, 0, none⟩)) (by kernel_rfl) ⟨rfl, Below.refl _ _⟩) ?_
               refine al_on 4 (iv x4621.fam) hsub rfl (by kernel_rfl) (by kernel_rfl) (fun w hI => s_load1 hI 0 (iv x4621.fam) Try.isAgg3 rfl rfl rfl ⟨rfl, Below.refl _ _⟩) ?_
               refine al_on 5 (iv y4700) hsub rfl (by kernel_rfl) (by kernel_rfl) (fun w hI => s_call 61 [.slice Ap2 lp2.length cp2, iv x4621.fam] (by kernel_rfl) (L61 _ Ap2 cp2 lp2 x4621.fam (hCp2.inv0 hI) hMp2 hKp2 N _ hy4701) (fun v' w' h => h)) ?_
               refine al_on 6 (slv (some b4696) u4513.length c4515) hsub rfl (by kernel_rfl) (by kernel_rfl) (fun w hI => s_pure (slv (some b4696) u4513.length c4515) (by kernel_rfl) ⟨rfl, Below.refl _ _⟩) ?_
               refine al_on 7 (iv v4518) hsub rfl (by kernel_rfl) (by kernel_rfl) (fun w hI => s_pure (iv v4518) (by kernel_rfl) ⟨rfl, Below.refl _ _⟩) ?_
               have he4705 := r4698.atS eInt_len (by decide) hx4703
               refine al_on 8 (.pointer (some ⟨b4696, (v4518).toNat * 1, none⟩)) hsub rfl (by kernel_rfl) (by kernel_rfl) (fun w hI => s_indexR (v4518).toNat Try.underlying49 Try.sizeOf3 rfl rfl (Int.toNat_of_nonneg h953).symm (lt_n hx4703 (set_len rfl)) ⟨rfl, Below.refl _ _⟩) ?_
               refine al_on 9 (iv x4702) hsub rfl (by kernel_rfl) (by kernel_rfl) (fun w hI => s_loadR1 hI 5 (iv x4702) Try.isAgg3 rfl rfl (he4705 0 _ rfl) ⟨rfl, Below.refl _ _⟩) ?_
               refine al_on 10 (.bool true) hsub rfl (by kernel_rfl) (by kernel_rfl) (fun w hI => s_geq rfl rfl (fun _ => ⟨rfl, Below.refl _ _⟩) (fun h => absurd (a := x4702 ≤ y4700) h968 h)) ?_
               refine alp 11 (.bool true) hsub rfl (by kernel_rfl) (fun _ => (by kernel_rfl)) ?_
               refine alp 12 (.bool true) hsub rfl (by kernel_rfl) (fun _ => (by kernel_rfl)) ?_
               refine any_end (by kernel_rfl) (fun w hI => ?_)
               exact .inl ⟨rfl, ⟨some b4623, c4505, cl4506, some b4686, c4509, cl4510, some b4696, c4515, cl4699, true, (u4513).set (v4518).toNat (if x4621.wants < (y2383.1 + 1) then x4621.wants else (y2383.1 + 1)), ⟨rfl, rfl, rfl, rfl, rfl, rfl, (slv_n (set_len rfl)), rfl, trivial⟩, hI.pickL [1, 2, 3, 4, 5] (by decide) rfl, (r4507.to rfl rfl), (r4511.to rfl rfl), (r4698.to rfl (set_len rfl)), hF⟩⟩
              ·
               refine wp_drawn2 hI [0, 1, 2, 3, 4, 5] (by decide) rfl (by kernel_rfl) (by kernel_rfl) ?_
               intro hsub
               refine alp 0 (.bool true) hsub rfl (by kernel_rfl) (fun _ => (by kernel_rfl)) ?_
               refine alp 1 (.bool true) hsub rfl (by kernel_rfl) (fun _ => (by kernel_rfl)) ?_
               refine al_on 2 (.slice Ap2 lp2.length cp2) hsub rfl (by kernel_rfl) (by kernel_rfl) (fun w hI => s_pure (.slice Ap2 lp2.length cp2) (by kernel_rfl) ⟨rfl, Below.refl _ _⟩) ?_
               refine al_on 3 (.pointer (some ⟨b4625, 0, none⟩)) hsub rfl (by kernel_rfl) (by kernel_rfl) (fun w hI => s_pure (.pointer (some ⟨b4625, 0, none⟩)) (by kernel_rfl) ⟨rfl, Below.refl _ _⟩) ?_
               refine al_on 4 (iv x4621.fam) hsub rfl (by kernel_rfl) (by kernel_rfl) (fun w hI => s_load1 hI 0 (iv x4621.fam) Try.isAgg3 rfl rfl rfl ⟨rfl, Below.refl _ _⟩) ?_
               refine al_on 5 (iv y4700) hsub rfl (by kernel_rfl) (by kernel_rfl) (fun w hI => s_call 61 [.slice Ap2 lp2.length cp2, iv x4621.fam] (by kernel_rfl) (L61 _ Ap2 cp2 lp2 x4621.fam (hCp2.inv0 hI) hMp2 hKp2 N _ hy4701) (fun v' w' h => h)) ?_
               refine al_on 6 (slv (some b4696) u4513.length c4515) hsub rfl (by kernel_rfl) (by kernel_rfl) (fun w hI => s_pure (slv (some b4696) u4513.length c4515) (by kernel_rfl) ⟨rfl, Below.refl _ _⟩) ?_
               refine al_on 7 (iv v4518) hsub rfl (by kernel_rfl) (by kernel_rfl) (fun w hI => s_pure (iv v4518) (by kernel_rfl) ⟨rfl, Below.refl _ _⟩) ?_
               have he4706 := r4698.atS eInt_len (by decide) hx4703
               refine al_on 8 (.pointer (some ⟨b4696, (v4518).toNat * 1, none⟩)) hsub rfl (by kernel_rfl) (by kernel_rfl) (fun w hI => s_indexR (v4518).toNat Try.underlying49 Try.sizeOf3 rfl rfl (Int.toNat_of_nonneg h953).symm (lt_n hx4703 (set_len rfl)) ⟨rfl, Below.refl _ _⟩) ?_
               refine al_on 9 (iv x4702) hsub rfl (by kernel_rfl) (by kernel_rfl) (fun w hI => s_loadR1 hI 5 (iv x4702) Try.isAgg3 rfl rfl (he4706 0 _ rfl) ⟨rfl, Below.refl _ _⟩) ?_
               refine al_on 10 (.bool false) hsub rfl (by kernel_rfl) (by kernel_rfl) (fun w hI => s_geq rfl rfl (fun h => absurd (a := x4702 ≤ y4700) h h968) (fun _ => ⟨rfl, Below.refl _ _⟩)) ?_
               refine alp 11 (.bool false) hsub rfl (by kernel_rfl) (fun _ => (by kernel_rfl)) ?_
               refine alp 12 (.bool false) hsub rfl (by kernel_rfl) (fun _ => (by kernel_rfl)) ?_
               refine any_end (by kernel_rfl) (fun w hI => ?_)
               exact .inl ⟨rfl, ⟨some b4623, c4505, cl4506, some b4686, c4509, cl4510, some b4696, c4515, cl4699, false, (u4513).set (v4518).toNat (if x4621.wants < (y2383.1 + 1) then x4621.wants else (y2383.1 + 1)), ⟨rfl, rfl, rfl, rfl, rfl, rfl, (slv_n (set_len rfl)), rfl, trivial⟩, hI.pickL [1, 2, 3, 4, 5] (by decide) rfl, (r4507.to rfl rfl), (r4511.to rfl rfl), (r4698.to rfl (set_len rfl)), hF⟩⟩
             ·
              have hF := hG; clear hG
              refine ifE hF (fun h => absurd h (by decide)) (fun _ hF => ?_)
              refine wp_drawn2 hI [0, 1, 2, 3, 4, 5] (by decide) rfl (by kernel_rfl) (by kernel_rfl) ?_
              intro hsub
              refine alp 0 (.bool false) hsub rfl (by kernel_rfl) (fun _ => (by kernel_rfl)) ?_
              refine alp 1 (.bool false) hsub rfl (by kernel_rfl) (fun _ => (by kernel_rfl)) ?_
              refine al_off 2 hsub rfl (by kernel_rfl) (by kernel_rfl) ?_
              refine al_off 3 hsub rfl (by kernel_rfl) (by kernel_rfl) ?_
              refine al_off 4 hsub rfl (by kernel_rfl) (by kernel_rfl) ?_
              refine al_off 5 hsub rfl (by kernel_rfl) (by kernel_rfl) ?_
              refine al_off 6 hsub rfl (by kernel_rfl) (by kernel_rfl) ?_
              refine al_off 7 hsub rfl (by kernel_rfl) (by kernel_rfl) ?_
              refine al_off 8 hsub rfl (by kernel_rfl) (by kernel_rfl) ?_
              refine al_off 9 hsub rfl (by kernel_rfl) (by kernel_rfl) ?_
              refine al_off 10 hsub rfl (by kernel_rfl) (by kernel_rfl) ?_
              refine alp 11 (.bool false) hsub rfl (by kernel_rfl) (fun _ => (by kernel_rfl)) ?_
              refine alp 12 (.bool false) hsub rfl (by kernel_rfl) (fun _ => (by kernel_rfl)) ?_
              refine any_end (by kernel_rfl) (fun w hI => ?_)
              exact .inl ⟨rfl, ⟨some b4623, c4505, cl4506, some b4686, c4509, cl4510, some b4696, c4515, cl4699, false, (u4513).set (v4518).toNat (if x4621.wants < (y2383.1 + 1) then x4621.wants else (y2383.1 + 1)), ⟨rfl, rfl, rfl, rfl, rfl, rfl, (slv_n (set_len rfl)), rfl, trivial⟩, hI.pickL [1, 2, 3, 4, 5] (by decide) rfl, (r4507.to rfl rfl), (r4511.to rfl rfl), (r4698.to rfl (set_len rfl)), hF⟩⟩
          ·
           refine wp_drawn2 hI [0, 1, 2, 3, 4, 5] (by decide) rfl (by kernel_rfl) (by kernel_rfl) ?_
           intro hsub
           refine alp 0 (slv g2377 y2375.1.length c2378) hsub rfl (by kernel_rfl) (fun _ => (by kernel_rfl)) ?_
           refine alp 1 (.pointer (some ⟨b4625, 0, none⟩)) hsub rfl (by kernel_rfl) (fun _ => (by kernel_rfl)) ?_
           refine al_light 2 (iv x4621.fam) hsub rfl (by kernel_rfl) (fun w hI => s_load1 hI 0 (iv x4621.fam) Try.isAgg3 rfl rfl rfl ⟨rfl, Below.refl _ _⟩) ?_
           refine al_light 3 (iv y4676) hsub rfl (by kernel_rfl) (fun w hI => s_call 61 [slv g2377 y2375.1.length c2378, iv x4621.fam] (by kernel_rfl) (L61 _ (g2377.map fun b => ⟨b, 0, none⟩) c2378 y2375.1 x4621.fam (hI.rowCells 3 rfl r2380) (len_le rfl r2380.big) (len_le rfl r2380.cap) N _ hy4677) (fun v' w' h => h)) ?_
           refine alp 4 (slv g4508 y2391.1.length c4509) hsub rfl (by kernel_rfl) (fun _ => (by kernel_rfl)) ?_
           refine alp 5 (iv v4518) hsub rfl (by kernel_rfl) (fun _ => (by kernel_rfl)) ?_
           obtain ⟨b4707, rfl, he4708⟩ := r4511.at_ eInt_len (by decide) hx4679
           refine al_light 6 (.pointer (some ⟨b4707, (v4518).toNat * 1, none⟩)) hsub rfl (by kernel_rfl) (fun w hI => s_indexR (v4518).toNat Try.underlying49 Try.sizeOf3 rfl rfl (Int.toNat_of_nonneg h953).symm (lt_n hx4679 rfl) ⟨rfl, Below.refl _ _⟩) ?_
           refine al_light 7 (iv x4678) hsub rfl (by kernel_rfl) (fun w hI => s_loadR1 hI 4 (iv x4678) Try.isAgg3 rfl rfl (he4708 0 _ rfl) ⟨rfl, Below.refl _ _⟩) ?_
           refine al_light 8 (.bool true) hsub rfl (by kernel_rfl) (fun w hI => s_neq rfl rfl (fun _ => ⟨rfl, Below.refl _ _⟩) (fun h => absurd (a := y4676 = x4678) h h963)) ?_
           refine alp 9 (.bool true) hsub rfl (by kernel_rfl) (fun _ => (by kernel_rfl)) ?_
           refine al_off 10 hsub rfl (by kernel_rfl) (by kernel_rfl) ?_
           refine al_off 11 hsub rfl (by kernel_rfl) (by kernel_rfl) ?_
           refine al_off 12 hsub rfl (by kernel_rfl) (by kernel_rfl) ?_
           refine al_off 13 hsub rfl (by kernel_rfl) (by kernel_rfl) ?_
           refine al_off 14 hsub rfl (by kernel_rfl) (by kernel_rfl) ?_
           refine al_off 15 hsub rfl (by kernel_rfl) (by kernel_rfl) ?_
           refine al_off 16 hsub rfl (by kernel_rfl) (by kernel_rfl) ?_
           refine al_off 17 hsub rfl (by kernel_rfl) (by kernel_rfl) ?_
           refine al_off 18 hsub rfl (by kernel_rfl) (by kernel_rfl) ?_
           refine alp 19 (.bool true) hsub rfl (by kernel_rfl) (fun _ => (by kernel_rfl)) ?_
           refine alp 20 (.bool true) hsub rfl (by kernel_rfl) (fun _ => (by kernel_rfl)) ?_
           refine al_off 21 hsub rfl (by kernel_rfl) (by kernel_rfl) ?_
           refine al_off 22 hsub rfl (by kernel_rfl) (by kernel_rfl) ?_
           refine al_off 23 hsub rfl (by kernel_rfl) (by kernel_rfl) ?_
           refine al_off 24 hsub rfl (by kernel_rfl) (by kernel_rfl) ?_
           refine al_off 25 hsub rfl (by kernel_rfl) (by kernel_rfl) ?_
           refine al_off 26 hsub rfl (by kernel_rfl) (by kernel_rfl) ?_
           refine al_off 27 hsub rfl (by kernel_rfl) (by kernel_rfl) ?_
           refine alp 28 (.bool true) hsub rfl (by kernel_rfl) (fun _ => (by kernel_rfl)) ?_
           refine any_end (by kernel_rfl) (fun w hI => ?_)
           refine wp_condT rfl (wp_seq (rgn (by kernel_rfl) (pu (.bool false) (by kernel_rfl) (seq_nil (wp_ret ?_)))))
           replace hF := Option.some.inj hF; subst hF
           exact ⟨.bool false, Ret.r1 rfl rfl, ⟨rfl, hI.below⟩⟩
         ·intro ρ w hJ
          obtain ⟨g4607, c4608, cl4609, g4611, c4612, cl4613, g4617, c4618, cl4619, v4615, u4616, hag, hI, r4610, r4614, r4620, hF⟩ := hJ
          obtain ⟨ρ, rfl⟩ := hag.form; clear hag
          unfold F10j8 at hF
          refine rgn (by kernel_rfl) (pu (iv v4518) (by kernel_rfl) (ckE hF (fun h952 hF => ?_)))
          refine seq_c (s_add rfl rfl h952 ?_)
          refine pu (iv (v4518 + 1)) (by kernel_rfl) (seq_nil ?_)
          exact ⟨rfl, m7, Nat.lt_succ_self _, ⟨g4607, c4608, cl4609, g4611, c4612, cl4613, g4617, c4618, cl4619, v4615, u4616, v4518 + 1, m7, ⟨rfl, rfl, rfl, rfl, rfl, rfl, rfl, rfl, trivial⟩, hI.pickL [0, 1, 2, 3, 4] (by decide) rfl, (r4610.to rfl rfl), (r4614.to rfl rfl), (r4620.to rfl rfl), hF, rfl⟩⟩
        ·
         refine seq_c (s_lss rfl rfl (fun h => absurd (a := v4518 < (y2391.1.length : Int)) h h935) (fun _ => ?_))
         refine seq_nil (wp_condF rfl (wp_exit ?_))
         exact .inl ⟨rfl, ⟨g4504, c4505, cl4506, g4508, c4509, cl4510, g4514, c4515, cl4516, v4512, u4513, ⟨rfl, rfl, rfl, rfl, rfl, rfl, trivial⟩, hI.pickL [0, 1, 3, 4] (by decide) rfl, (r4507.to rfl rfl), (r4511.to rfl rfl), (r4517.to rfl rfl), hF⟩⟩
       ·intro ρ w hJ
        obtain ⟨g3007, c3008, cl3009, g3011, c3012, cl3013, g3017, c3018, cl3019, v3015, u3016, hag, hI, r3010, r3014, r3020, hF⟩ := hJ
        obtain ⟨ρ, rfl⟩ := hag.form; clear hag
        unfold F10j1 at hF
        refine wp_seq (rgn (by kernel_rfl) (seq_c (s_loadK hI 0 2 [iv y2362.1, slv g3007 y2362.2.length c3008] Try.isAgg24 Try.sizeOf24 rfl rfl rfl rfl ?_)))
        refine pu (.slice Ap2 lp2.length cp2) (by kernel_rfl) (bindE hF (fun y3027 hy3028 hF => ?_))
        refine seq_c (s_call 62 [.agg #[iv y2362.1, slv g3007 y2362.2.length c3008], .slice Ap2 lp2.length cp2] (by kernel_rfl) (L62 _ y2362.1 (g3007.map fun b => ⟨b, 0, none⟩) c3008 y2362.2 Ap2 cp2 lp2 (hI.rowCells 1 rfl r3010) (len_le rfl r3010.big) (len_le rfl r3010.cap) (hCp2.inv0 hI) hMp2 hKp2 N _ hy3028) ?_)
        rintro v w ⟨g3029, c3030, cl3031, rfl, hN, r3032⟩
        have hI := hI.join hN; clear hN
        refine pu (.tuple #[slv g3029 y3027.1.length c3030, .bool y3027.2]) (by kernel_rfl) (pu (slv g3029 y3027.1.length c3030) (by kernel_rfl) (pu (.bool y3027.2) (by kernel_rfl) (pu (slv g3029 y3027.1.length c3030) (by kernel_rfl) (pu (.bool y3027.2) (by kernel_rfl) (seq_nil (wp_seq (wp_cutO (fun ρ w => Agree ρ [(7, .pointer (some ⟨b2368, 0, none⟩)), (10, iv y2383.1), (12, slv g3011 y2391.1.length c3012), (15, slv g3017 u3016.length c3018), (151, .bool false)] ∧ Inv [] w0 w [(some b2368, blk [iv y2362.1, slv g3007 y2362.2.length c3008] 24), (g3007, blk cl3009 26), (g3011, blk cl3013 3), (g3017, blk cl3019 3)] ∧ F10j2 N y2362 y2383 y2391 u3016 = some r) ?_ ?_)))))))
        ·
         refine ifE hF (fun h859 hF => ?_) (fun h859 hF => ?_)
         ·
          rw [h859]
          have hG := hF; rcases Bool.eq_false_or_eq_true v3015 with rfl | rfl
          ·
           have hF := hG; clear hG
           refine ifE hF (fun _ hF => ?_) (fun h => absurd rfl h)
           refine rgn (by kernel_rfl) (pu (.bool true) (by kernel_rfl) (pu (.bool true) (by kernel_rfl) (puo (.bool true) ⟨(by kernel_rfl), (by kernel_rfl)⟩ (pu (.bool true) (by kernel_rfl) (pu (.bool true) (by kernel_rfl) (puo (iv y2383.1) ⟨(by kernel_rfl), (by kernel_rfl)⟩ (ifE hF (fun h860 hF => ?_) (fun h860 hF => ?_))))))))
           ·
            refine seq_on (by kernel_rfl) (s_lss rfl rfl (fun _ => ?_) (fun h => absurd (a := y2383.1 < 24) h860 h))
            refine pu (.bool true) (by kernel_rfl) (seq_nil (.inr ?_))
            refine wp_condT rfl (wp_seq (rgn (by kernel_rfl) (pu (.bool false) (by kernel_rfl) (seq_nil (wp_ret ?_)))))
            replace hF := Option.some.inj hF; subst hF
            exact ⟨.bool false, Ret.r1 rfl rfl, ⟨rfl, hI.below⟩⟩
           ·
            refine seq_on (by kernel_rfl) (s_lss rfl rfl (fun h => absurd (a := y2383.1 < 24) h h860) (fun _ => ?_))
            refine pu (.bool false) (by kernel_rfl) (seq_nil ?_)
            exact .inl ⟨rfl, ⟨⟨rfl, rfl, rfl, rfl, rfl, trivial⟩, hI.pickL [1, 2, 3, 4] (by decide) rfl, hF⟩⟩
          ·
           have hF := hG; clear hG
           refine ifE hF (fun h => absurd h (by decide)) (fun _ hF => ?_)
           refine rgn (by kernel_rfl) (pu (.bool true) (by kernel_rfl) (pu (.bool true) (by kernel_rfl) (puo (.bool false) ⟨(by kernel_rfl), (by kernel_rfl)⟩ (pu (.bool false) (by kernel_rfl) (pu (.bool false) (by kernel_rfl) (of_ (by kernel_rfl) (of_ (by kernel_rfl) (pu (.bool false) (by kernel_rfl) (seq_nil ?_)))))))))
           exact .inl ⟨rfl, ⟨⟨rfl, rfl, rfl, rfl, rfl, trivial⟩, hI.pickL [1, 2, 3, 4] (by decide) rfl, hF⟩⟩
         ·
          rw [(Bool.eq_false_iff.2 h859)]
          have hG := hF; rcases Bool.eq_false_or_eq_true v3015 with rfl | rfl
          ·
           have hF := hG; clear hG
           refine ifE hF (fun _ hF => ?_) (fun h => absurd rfl h)
           refine rgn (by kernel_rfl) (pu (.bool false) (by kernel_rfl) (pu (.bool false) (by kernel_rfl) (of_ (by kernel_rfl) (pu (.bool false) (by kernel_rfl) (pu (.bool false) (by kernel_rfl) (of_ (by kernel_rfl) (of_ (by kernel_rfl) (pu (.bool false) (by kernel_rfl) (seq_nil ?_)))))))))
           exact .inl ⟨rfl, ⟨⟨rfl, rfl, rfl, rfl, rfl, trivial⟩, hI.pickL [1, 2, 3, 4] (by decide) rfl, hF⟩⟩
          ·
           have hF := hG; clear hG
           refine ifE hF (fun h => absurd h (by decide)) (fun _ hF => ?_)
           refine rgn (by kernel_rfl) (pu (.bool false) (by kernel_rfl) (pu (.bool false) (by kernel_rfl) (of_ (by kernel_rfl) (pu (.bool false) (by kernel_rfl) (pu (.bool false) (by kernel_rfl) (of_ (by kernel_rfl) (of_ (by kernel_rfl) (pu (.bool false) (by kernel_rfl) (seq_nil ?_)))))))))
           exact .inl ⟨rfl, ⟨⟨rfl, rfl, rfl, rfl, rfl, trivial⟩, hI.pickL [1, 2, 3, 4] (by decide) rfl, hF⟩⟩
        ·intro ρ w hJ
         obtain ⟨hag, hI, hF⟩ := hJ
         obtain ⟨ρ, rfl⟩ := hag.form; clear hag
         unfold F10j2 at hF
         refine wp_condF rfl (wp_skip (wp_cutO (fun ρ w => Agree ρ [(7, .pointer (some ⟨b2368, 0, none⟩)), (12, slv g3011 y2391.1.length c3012)] ∧ Inv [] w0 w [(some b2368, blk [iv y2362.1, slv g3007 y2362.2.length c3008] 24), (g3007, blk cl3009 26), (g3011, blk cl3013 3)] ∧ F10j3 N y2362 y2391 = some r) ?_ ?_))
         ·
          refine wp_seq (rgn (by kernel_rfl) (pu (iv y2383.1) (by kernel_rfl) (ifE hF (fun h852 hF => ?_) (fun h852 hF => ?_))))
          ·
           refine seq_c (s_lss rfl rfl (fun _ => ?_) (fun h => absurd (a := y2383.1 < 24) h852 h))
           refine seq_nil (wp_condT rfl (wp_seq (rgn (by kernel_rfl) (seq_c (s_loadK hI 0 2 [iv y2362.1, slv g3007 y2362.2.length c3008] Try.isAgg24 Try.sizeOf24 rfl rfl rfl rfl ?_)))))
           refine pu (slv g3017 u3016.length c3018) (by kernel_rfl) (bindE hF (fun y4111 hy4112 hF => ?_))
           refine seq_c (s_callv hI 44 [.agg #[iv y2362.1, slv g3007 y2362.2.length c3008], slv g3017 u3016.length c3018] (.tuple #[.bool y4111.1, iv y4111.2]) (by kernel_rfl) (L44 _ y2362.1 (g3007.map fun b => ⟨b, 0, none⟩) c3008 y2362.2 (g3017.map fun b => ⟨b, 0, none⟩) c3018 u3016 (hI.rowCells 1 rfl r3010) (len_le rfl r3010.big) (len_le rfl r3010.cap) (hI.rowCells 3 rfl r3020) (len_le rfl r3020.big) (len_le rfl r3020.cap) N _ hy4112) ?_)
           intro w hI
           refine pu (.tuple #[.bool y4111.1, iv y4111.2]) (by kernel_rfl) (pu (.bool y4111.1) (by kernel_rfl) (pu (iv y4111.2) (by kernel_rfl) (pu (.bool y4111.1) (by kernel_rfl) (pu (iv y4111.2) (by kernel_rfl) (seq_nil (wp_seq (ifE hF (fun h856 hF => ?_) (fun h856 hF => ?_))))))))
           ·
            rw [h856]
            refine rgn (by kernel_rfl) (pu (iv y4111.2) (by kernel_rfl) (ifE hF (fun h857 hF => ?_) (fun h857 hF => ?_)))
            ·
             refine seq_c (s_neq rfl rfl (fun h => absurd (a := y4111.2 = 0) h857 h) (fun _ => ?_))
             refine pu (.bool false) (by kernel_rfl) (puo (.bool true) ⟨(by kernel_rfl), (by kernel_rfl)⟩ (pu (.bool true) (by kernel_rfl) (seq_nil (wp_condT rfl (wp_seq (rgn (by kernel_rfl) (pu (.bool false) (by kernel_rfl) (seq_nil (wp_ret ?_)))))))))
             replace hF := Option.some.inj hF; subst hF
             exact ⟨.bool false, Ret.r1 rfl rfl, ⟨rfl, hI.below⟩⟩
            ·
             refine seq_c (s_neq rfl rfl (fun _ => ?_) (fun h => absurd (a := y4111.2 = 0) h h857))
             refine pu (.bool true) (by kernel_rfl) (of_ (by kernel_rfl) (pu (.bool true) (by kernel_rfl) (seq_nil (wp_condT rfl (wp_seq (rgn (by kernel_rfl) (pu (.bool false) (by kernel_rfl) (seq_nil (wp_ret ?_)))))))))
             replace hF := Option.some.inj hF; subst hF
             exact ⟨.bool false, Ret.r1 rfl rfl, ⟨rfl, hI.below⟩⟩
           ·
            rw [(Bool.eq_false_iff.2 h856)]
            refine rgn (by kernel_rfl) (pu (iv y4111.2) (by kernel_rfl) (ifE hF (fun h858 hF => ?_) (fun h858 hF => ?_)))
            ·
             refine seq_c (s_neq rfl rfl (fun h => absurd (a := y4111.2 = 0) h858 h) (fun _ => ?_))
             refine pu (.bool false) (by kernel_rfl) (puo (.bool false) ⟨(by kernel_rfl), (by kernel_rfl)⟩ (pu (.bool false) (by kernel_rfl) (seq_nil (wp_condF rfl (wp_skip ?_)))))
             exact .inl ⟨rfl, ⟨⟨rfl, rfl, trivial⟩, hI.pickL [0, 1, 2] (by decide) rfl, hF⟩⟩
            ·
             refine seq_c (s_neq rfl rfl (fun _ => ?_) (fun h => absurd (a := y4111.2 = 0) h h858))
             refine pu (.bool true) (by kernel_rfl) (of_ (by kernel_rfl) (pu (.bool true) (by kernel_rfl) (seq_nil (wp_condT rfl (wp_seq (rgn (by kernel_rfl) (pu (.bool false) (by kernel_rfl) (seq_nil (wp_ret ?_)))))))))
             replace hF := Option.some.inj hF; subst hF
             exact ⟨.bool false, Ret.r1 rfl rfl, ⟨rfl, hI.below⟩⟩
          ·
           refine seq_c (s_lss rfl rfl (fun h => absurd (a := y2383.1 < 24) h h852) (fun _ => ?_))
           refine seq_nil (wp_condF rfl (wp_skip ?_))
           exact .inl ⟨rfl, ⟨⟨rfl, rfl, trivial⟩, hI.pickL [0, 1, 2] (by decide) rfl, hF⟩⟩
         ·intro ρ w hJ
          obtain ⟨hag, hI, hF⟩ := hJ
          obtain ⟨ρ, rfl⟩ := hag.form; clear hag
          unfold F10j3 at hF
          refine wp_cutO (fun ρ w => Agree ρ [] ∧ Inv [] w0 w [] ∧ F10j4 N = some r) ?_ ?_
          ·
           refine wp_seq (rgn (by kernel_rfl) (pu (iv 0) (by kernel_rfl) (seq_nil (wp_block ?_))))
           refine wp_loop (fun m ρ w => ∃ (g3928 : Option Nat) (c3929 : Nat) (cl3930 : List Value) (g3932 : Option Nat) (c3933 : Nat) (cl3934 : List Value) (v3936 : Int) (mm : Nat), Agree ρ [(7, .pointer (some ⟨b2368, 0, none⟩)), (12, slv g3932 y2391.1.length c3933), (22, iv v3936)] ∧ Inv [] w0 w [(some b2368, blk [iv y2362.1, slv g3928 y2362.2.length c3929] 24), (g3928, blk cl3930 26), (g3932, blk cl3934 3)] ∧ (Row 3 g3928 (y2362.2.length) c3929 cl3930 (flat eCm y2362.2)) ∧ (Row 1 g3932 (y2391.1.length) c3933 cl3934 (flat eInt y2391.1)) ∧ F10l5 N y2362 y2391 mm v3936 = some r ∧ mm = m) (m := N) ⟨g3007, c3008, cl3009, g3011, c3012, cl3013, 0, N, ⟨rfl, rfl, rfl, trivial⟩, hI.pickL [0, 1, 2] (by decide) rfl, (r3010.to rfl rfl), (r3014.to rfl rfl), hF, rfl⟩ ?_
           rintro m ρ w ⟨g3928, c3929, cl3930, g3932, c3933, cl3934, v3936, mm, hag, hI, r3931, r3935, hF, hm⟩
           subst hm; obtain ⟨ρ, rfl⟩ := hag.form; clear hag
           obtain _ | m5 := mm
           ·cases (show (none : Option Bool) = some r from hF)
           replace hF : F10b5 N y2362 y2391 (F10l5 N y2362 y2391 m5) v3936 = some r := hF; unfold F10b5 at hF
           refine wp_seq (wp_seq (rgn (by kernel_rfl) (pu (iv v3936) (by kernel_rfl) (pu (slv g3932 y2391.1.length c3933) (by kernel_rfl) (pu (iv ((y2391.1.length : Nat) : Int)) (by kernel_rfl) (ifE hF (fun h815 hF => ?_) (fun h815 hF => ?_)))))))
           ·
            refine seq_c (s_lss rfl rfl (fun _ => ?_) (fun h => absurd (a := v3936 < (y2391.1.length : Int)) h815 h))
            refine seq_nil (wp_condT rfl (wp_skip (wp_cutO (fun ρ w => ∃ (g4019 : Option Nat) (c4020 : Nat) (cl4021 : List Value) (g4023 : Option Nat) (c4024 : Nat) (cl4025 : List Value), Agree ρ [(7, .pointer (some ⟨b2368, 0, none⟩)), (12, slv g4023 y2391.1.length c4024), (22, iv v3936)] ∧ Inv [] w0 w [(some b2368, blk [iv y2362.1, slv g4019 y2362.2.length c4020] 24), (g4019, blk cl4021 26), (g4023, blk cl4025 3)] ∧ (Row 3 g4019 (y2362.2.length) c4020 cl4021 (flat eCm y2362.2)) ∧ (Row 1 g4023 (y2391.1.length) c4024 cl4025 (flat eInt y2391.1)) ∧ F10j6 (F10l5 N y2362 y2391 m5) v3936 = some r) ?_ ?_)))
            ·
             refine wp_block ?_
             refine wp_seq (wp_seq (gdE hF (fun h840 hF => ?_)))
             refine bindE hF (fun x4075 hx4076 hF => ?_)
             refine bindE hF (fun x4079 hx4080 hF => ?_)
             refine ifE hF (fun h841 hF => ?_) (fun h841 hF => ?_)
             ·
              refine wp_drawn2 hI [0, 1, 2] (by decide) rfl (by kernel_rfl) (by kernel_rfl) ?_
              intro hsub
              refine alp 0 (slv g3932 y2391.1.length c3933) hsub rfl (by kernel_rfl) (fun _ => (by kernel_rfl)) ?_
              refine alp 1 (iv v3936) hsub rfl (by kernel_rfl) (fun _ => (by kernel_rfl)) ?_
              obtain ⟨b4083, rfl, he4084⟩ := r3935.at_ eInt_len (by decide) hx4076
              refine al_light 2 (.pointer (some ⟨b4083, (v3936).toNat * 1, none⟩)) hsub rfl (by kernel_rfl) (fun w hI => s_indexR (v3936).toNat Try.underlying49 Try.sizeOf3 rfl rfl (Int.toNat_of_nonneg h840).symm (lt_n hx4076 rfl) ⟨rfl, Below.refl _ _⟩) ?_
              refine al_light 3 (iv x4075) hsub rfl (by kernel_rfl) (fun w hI => s_loadR1 hI 2 (iv x4075) Try.isAgg3 rfl rfl (he4084 0 _ rfl) ⟨rfl, Below.refl _ _⟩) ?_
              refine alp 4 (.pointer (some ⟨b2368, 1, none⟩)) hsub rfl (by kernel_rfl) (fun _ => (by kernel_rfl)) ?_
              refine al_light 5 (slv g3928 y2362.2.length c3929) hsub rfl (by kernel_rfl) (fun w hI => s_load1 hI 0 (slv g3928 y2362.2.length c3929) Try.isAgg22 rfl rfl rfl ⟨rfl, Below.refl _ _⟩) ?_
              refine alp 6 (iv v3936) hsub rfl (by kernel_rfl) (fun _ => (by kernel_rfl)) ?_
              obtain ⟨b4085, rfl, he4086⟩ := r3931.at_ eCm_len (by decide) hx4080
              refine al_light 7 (.pointer (some ⟨b4085, (v3936).toNat * 3, none⟩)) hsub rfl (by kernel_rfl) (fun w hI => s_indexR (v3936).toNat Try.underlying22 Try.sizeOf26 rfl rfl (Int.toNat_of_nonneg h840).symm (lt_n hx4080 rfl) ⟨rfl, Below.refl _ _⟩) ?_
              refine alp 8 (.pointer (some ⟨b4085, (v3936).toNat * 3 + 2, none⟩)) hsub rfl (by kernel_rfl) (fun _ => (by kernel_rfl)) ?_
              refine al_light 9 (iv x4079.wants) hsub rfl (by kernel_rfl) (fun w hI => s_loadR1 hI 1 (iv x4079.wants) Try.isAgg3 rfl rfl (he4086 2 _ rfl) ⟨rfl, Below.refl _ _⟩) ?_
              refine al_light 10 (.bool true) hsub rfl (by kernel_rfl) (fun w hI => s_geq rfl rfl (fun _ => ⟨rfl, Below.refl _ _⟩) (fun h => absurd (a := x4079.wants ≤ x4075) h841 h)) ?_
              refine any_end (by kernel_rfl) (fun w hI => ?_)
              refine wp_condT rfl (wp_exit ?_)
              exact .inl ⟨rfl, ⟨some b4085, c3929, cl3930, some b4083, c3933, cl3934, ⟨rfl, rfl, rfl, trivial⟩, hI.pickL [0, 1, 2] (by decide) rfl, (r3931.to rfl rfl), (r3935.to rfl rfl), hF⟩⟩
             ·
              refine wp_drawn2 hI [0, 1, 2] (by decide) rfl (by kernel_rfl) (by kernel_rfl) ?_
              intro hsub
              refine alp 0 (slv g3932 y2391.1.length c3933) hsub rfl (by kernel_rfl) (fun _ => (by kernel_rfl)) ?_
              refine alp 1 (iv v3936) hsub rfl (by kernel_rfl) (fun _ => (by kernel_rfl)) ?_
              obtain ⟨b4087, rfl, he4088⟩ := r3935.at_ eInt_len (by decide) hx4076
              refine al_light 2 (.pointer (some ⟨b4087, (v3936).toNat * 1, none⟩)) hsub rfl (by kernel_rfl) (fun w hI => s_indexR (v3936).toNat Try.underlying49 Try.sizeOf3 rfl rfl (Int.toNat_of_nonneg h840).symm (lt_n hx4076 rfl) ⟨rfl, Below.refl _ _⟩) ?_
              refine al_light 3 (iv x4075) hsub rfl (by kernel_rfl) (fun w hI => s_loadR1 hI 2 (iv x4075) Try.isAgg3 rfl rfl (he4088 0 _ rfl) ⟨rfl, Below.refl _ _⟩) ?_
              refine alp 4 (.pointer (some ⟨b2368, 1, none⟩)) hsub rfl (by kernel_rfl) (fun _ => (by kernel_rfl)) ?_
              refine al_light 5 (slv g3928 y2362.2.length c3929) hsub rfl (by kernel_rfl) (fun w hI => s_load1 hI 0 (slv g3928 y2362.2.length c3929) Try.isAgg22 rfl rfl rfl ⟨rfl, Below.refl _ _⟩) ?_
              refine alp 6 (iv v3936) hsub rfl (by kernel_rfl) (fun _ => (by kernel_rfl)) ?_
              obtain ⟨b4089, rfl, he4090⟩ := r3931.at_ eCm_len (by decide) hx4080
              refine al_light 7 (.pointer (some ⟨b4089, (v3936).toNat * 3, none⟩)) hsub rfl (by kernel_rfl) (fun w hI => s_indexR (v3936).toNat Try.underlying22 Try.sizeOf26 rfl rfl (Int.toNat_of_nonneg h840).symm (lt_n hx4080 rfl) ⟨rfl, Below.refl _ _⟩) ?_
              refine alp 8 (.pointer (some ⟨b4089, (v3936).toNat * 3 + 2, none⟩)) hsub rfl (by kernel_rfl) (fun _ => (by kernel_rfl)) ?_
              refine al_light 9 (iv x4079.wants) hsub rfl (by kernel_rfl) (fun w hI => s_loadR1 hI 1 (iv x4079.wants) Try.isAgg3 rfl rfl (he4090 2 _ rfl) ⟨rfl, Below.refl _ _⟩) ?_
              refine al_light 10 (.bool false) hsub rfl (by kernel_rfl) (fun w hI => s_geq rfl rfl (fun h => absurd (a := x4079.wants ≤ x4075) h h841) (fun _ => ⟨rfl, Below.refl _ _⟩)) ?_
              refine any_end (by kernel_rfl) (fun w hI => ?_)
              refine wp_condF rfl (wp_skip (wp_seq (rgn (by kernel_rfl) (seq_c (s_new hI [] 3 (fun b => slv (some b) 0 0) (by kernel_rfl) ?_)))))
              intro b4096 w hI
              refine pu (slv (some b4087) y2391.1.length c3933) (by kernel_rfl) (gdE hF (fun h843 hF => ?_))
              refine seq_c (s_appN hI Try.underlying49 (z := iv 0) (k := 1) (bytes := 8) (by kernel_rfl) rfl rfl 0 rfl rfl (Row.zero_ 1 b4096) (flat eInt y2391.1) rfl (flat_len eInt_len _) (hI.rowCells 3 rfl r3935) (flat_cell eInt_cell _) (by omega) (by omega) (n2 := y2391.1.length) (app_len0 rfl) ?_)
              intro g4097 c4098 cl4099 w hI r4100
              have r4100 : Row 1 g4097 y2391.1.length c4098 cl4099 (flat eInt y2391.1) := r4100
              refine pu (slv g4097 y2391.1.length c4098) (by kernel_rfl) (seq_nil (wp_seq (rgn (by kernel_rfl) (pu (slv g4097 y2391.1.length c4098) (by kernel_rfl) (pu (iv v3936) (by kernel_rfl) ?_)))))
              obtain ⟨b4101, rfl, he4102⟩ := r4100.at_ eInt_len (by decide) hx4076
              refine seq_c (s_indexR (v3936).toNat Try.underlying49 Try.sizeOf3 rfl rfl (Int.toNat_of_nonneg h840).symm (lt_n hx4076 rfl) ?_)
              refine seq_c (s_loadR1 hI 0 (iv x4075) Try.isAgg3 rfl rfl (he4102 0 _ rfl) ?_)
              refine ckE hF (fun h844 hF => ?_)
              refine seq_c (s_add rfl rfl h844 ?_)
              refine seq_c (s_indexR (v3936).toNat Try.underlying49 Try.sizeOf3 rfl rfl (Int.toNat_of_nonneg h840).symm (lt_n hx4076 rfl) ?_)
              have := lt_n hx4076 rfl
              refine seq_c (s_store hI 0 1 [iv (x4075 + 1)] Try.sizeOf3 rfl rfl rfl rfl rfl (r4100.room (by omega)) ?_)
              intro w hI
              have r4103 := r4100.put eInt_len (by decide) (v3936).toNat (x4075 + 1) (by omega)
              obtain ⟨cl4104, hcl⟩ : ∃ z, z = putCells cl4099 ((v3936).toNat * 1) (eInt (x4075 + 1)) := ⟨_, rfl⟩
              rw [← hcl] at r4103
              have hI : Inv [] w0 w [(some b4101, blk cl4104 3), (some b2368, blk [iv y2362.1, slv (some b4089) y2362.2.length c3929] 24), (some b4089, blk cl3930 26), (some b4087, blk cl3934 3)] := by rw [hcl]; exact hI
              clear hcl
              refine seq_nil (wp_seq (rgn (by kernel_rfl) (seq_c (s_loadK hI 1 2 [iv y2362.1, slv (some b4089) y2362.2.length c3929] Try.isAgg24 Try.sizeOf24 rfl rfl rfl rfl ?_))))
              refine pu (slv (some b4101) y2391.1.length c4098) (by kernel_rfl) (bindE hF (fun y4107 hy4108 hF => ?_))
              refine seq_c (s_callv hI 44 [.agg #[iv y2362.1, slv (some b4089) y2362.2.length c3929], slv (some b4101) y2391.1.length c4098] (.tuple #[.bool y4107.1, iv y4107.2]) (by kernel_rfl) (Does.cast (L44 _ y2362.1 ((some b4089).map fun b => ⟨b, 0, none⟩) c3929 y2362.2 ((some b4101).map fun b => ⟨b, 0, none⟩) c4098 ((y2391.1).set (v3936).toNat (x4075 + 1)) (hI.rowCells 2 rfl r3931) (len_le rfl r3931.big) (len_le rfl r3931.cap) (hI.rowCells 0 rfl r4103) (len_le (set_len rfl) r4103.big) (len_le (set_len rfl) r4103.cap) N _ hy4108) (by first | (simp only [List.length_set, sortI_len] <;> rfl) | rfl)) ?_)
              intro w hI
              refine pu (.tuple #[.bool y4107.1, iv y4107.2]) (by kernel_rfl) (pu (.bool y4107.1) (by kernel_rfl) (pu (iv y4107.2) (by kernel_rfl) (pu (.bool y4107.1) (by kernel_rfl) (pu (iv y4107.2) (by kernel_rfl) (seq_nil (wp_seq (ifE hF (fun h848 hF => ?_) (fun h848 hF => ?_))))))))
              ·
               rw [h848]
               refine rgn (by kernel_rfl) (pu (iv y4107.2) (by kernel_rfl) (ifE hF (fun h849 hF => ?_) (fun h849 hF => ?_)))
               ·
                refine seq_c (s_neq rfl rfl (fun h => absurd (a := y4107.2 = 0) h849 h) (fun _ => ?_))
                refine pu (.bool false) (by kernel_rfl) (puo (.bool true) ⟨(by kernel_rfl), (by kernel_rfl)⟩ (pu (.bool true) (by kernel_rfl) (seq_nil (wp_condT rfl (wp_seq (rgn (by kernel_rfl) (pu (.bool false) (by kernel_rfl) (seq_nil (wp_ret ?_)))))))))
                replace hF := Option.some.inj hF; subst hF
                exact ⟨.bool false, Ret.r1 rfl rfl, ⟨rfl, hI.below⟩⟩
               ·
                refine seq_c (s_neq rfl rfl (fun _ => ?_) (fun h => absurd (a := y4107.2 = 0) h h849))
                refine pu (.bool true) (by kernel_rfl) (of_ (by kernel_rfl) (pu (.bool true) (by kernel_rfl) (seq_nil (wp_condT rfl (wp_seq (rgn (by kernel_rfl) (pu (.bool false) (by kernel_rfl) (seq_nil (wp_ret ?_)))))))))
                replace hF := Option.some.inj hF; subst hF
                exact ⟨.bool false, Ret.r1 rfl rfl, ⟨rfl, hI.below⟩⟩
              ·
               rw [(Bool.eq_false_iff.2 h848)]
               refine rgn (by kernel_rfl) (pu (iv y4107.2) (by kernel_rfl) (ifE hF (fun h850 hF => ?_) (fun h850 hF => ?_)))
               ·
                refine seq_c (s_neq rfl rfl (fun h => absurd (a := y4107.2 = 0) h850 h) (fun _ => ?_))
                refine pu (.bool false) (by kernel_rfl) (puo (.bool false) ⟨(by kernel_rfl), (by kernel_rfl)⟩ (pu (.bool false) (by kernel_rfl) (seq_nil (wp_condF rfl (wp_skip ?_)))))
                exact .inl ⟨rfl, ⟨some b4089, c3929, cl3930, some b4087, c3933, cl3934, ⟨rfl, rfl, rfl, trivial⟩, hI.pickL [1, 2, 3] (by decide) rfl, (r3931.to rfl rfl), (r3935.to rfl rfl), hF⟩⟩
               ·
                refine seq_c (s_neq rfl rfl (fun _ => ?_) (fun h => absurd (a := y4107.2 = 0) h h850))
                refine pu (.bool true) (by kernel_rfl) (of_ (by kernel_rfl) (pu (.bool true) (by kernel_rfl) (seq_nil (wp_condT rfl (wp_seq (rgn (by kernel_rfl) (pu (.bool false) (by kernel_rfl) (seq_nil (wp_ret ?_)))))))))
                replace hF := Option.some.inj hF; subst hF
                exact ⟨.bool false, Ret.r1 rfl rfl, ⟨rfl, hI.below⟩⟩
            ·intro ρ w hJ
             obtain ⟨g4019, c4020, cl4021, g4023, c4024, cl4025, hag, hI, r4022, r4026, hF⟩ := hJ
             obtain ⟨ρ, rfl⟩ := hag.form; clear hag
             unfold F10j6 at hF
             refine rgn (by kernel_rfl) (pu (iv v3936) (by kernel_rfl) (ckE hF (fun h833 hF => ?_)))
             refine seq_c (s_add rfl rfl h833 ?_)
             refine pu (iv (v3936 + 1)) (by kernel_rfl) (seq_nil ?_)
             exact ⟨rfl, m5, Nat.lt_succ_self _, ⟨g4019, c4020, cl4021, g4023, c4024, cl4025, v3936 + 1, m5, ⟨rfl, rfl, rfl, trivial⟩, hI.pickL [0, 1, 2] (by decide) rfl, (r4022.to rfl rfl), (r4026.to rfl rfl), hF, rfl⟩⟩
           ·
            refine seq_c (s_lss rfl rfl (fun h => absurd (a := v3936 < (y2391.1.length : Int)) h h815) (fun _ => ?_))
            refine seq_nil (wp_condF rfl (wp_exit ?_))
            exact .inl ⟨rfl, ⟨trivial, hI.pickL [] (by decide) rfl, hF⟩⟩
          ·intro ρ w hJ
           obtain ⟨hag, hI, hF⟩ := hJ
           obtain ⟨ρ, rfl⟩ := hag.form; clear hag
           unfold F10j4 at hF
           refine wp_seq (rgn (by kernel_rfl) (bindE hF (fun y3573 hy3574 hF => ?_)))
           refine seq_c (s_callv hI 25 [] (.bool y3573) (by kernel_rfl) (L25 _ N _ hy3574) ?_)
           intro w hI
           refine pu (.bool y3573) (by kernel_rfl) (seq_nil (wp_ret ?_))
           replace hF := Option.some.inj hF; subst hF
           exact ⟨.bool y3573, Ret.r1 rfl rfl, ⟨rfl, hI.below⟩⟩
      ·
       refine seq_on (by kernel_rfl) (s_neq rfl rfl (fun _ => ?_) (fun h => absurd (a := y2403 = 0) h h508))
       refine pu (.bool true) (by kernel_rfl) (seq_nil (wp_condT rfl (wp_seq (rgn (by kernel_rfl) (pu (.bool false) (by kernel_rfl) (seq_nil (wp_ret ?_)))))))
       replace hF := Option.some.inj hF; subst hF
       exact ⟨.bool false, Ret.r1 rfl rfl, ⟨rfl, hI.below⟩⟩
     ·
      refine seq_on (by kernel_rfl) (s_neq rfl rfl (fun _ => ?_) (fun h => absurd (a := (y2391.1.length : Int) = (y2362.2.length : Int)) h h507))
      refine pu (.bool true) (by kernel_rfl) (pu (.bool true) (by kernel_rfl) (of_ (by kernel_rfl) (of_ (by kernel_rfl) (of_ (by kernel_rfl) (of_ (by kernel_rfl) (pu (.bool true) (by kernel_rfl) (seq_nil (wp_condT rfl (wp_seq ?_)))))))))
      refine rgn (by kernel_rfl) (pu (.bool false) (by kernel_rfl) (seq_nil (wp_ret ?_)))
      replace hF := Option.some.inj hF; subst hF
      exact ⟨.bool false, Ret.r1 rfl rfl, ⟨rfl, hI.below⟩⟩
    ·
     refine seq_on (by kernel_rfl) (s_neq rfl rfl (fun _ => ?_) (fun h => absurd (a := (y2375.1.length : Int) = y2362.1) h h506))
     refine pu (.bool true) (by kernel_rfl) (pu (.bool true) (by kernel_rfl) (of_ (by kernel_rfl) (of_ (by kernel_rfl) (of_ (by kernel_rfl) (of_ (by kernel_rfl) (of_ (by kernel_rfl) (of_ (by kernel_rfl) (pu (.bool true) (by kernel_rfl) (pu (.bool true) (by kernel_rfl) ?_)))))))))
     refine of_ (by kernel_rfl) (of_ (by kernel_rfl) (of_ (by kernel_rfl) (of_ (by kernel_rfl) (pu (.bool true) (by kernel_rfl) (seq_nil (wp_condT rfl (wp_seq (rgn (by kernel_rfl) (pu (.bool false) (by kernel_rfl) ?_)))))))))
     refine seq_nil (wp_ret ?_)
     replace hF := Option.some.inj hF; subst hF
     exact ⟨.bool false, Ret.r1 rfl rfl, ⟨rfl, hI.below⟩⟩
   ·
    refine seq_on (by kernel_rfl) (s_neq rfl rfl (fun _ => ?_) (fun h => absurd (a := y2391.2 = 0) h h505))
    refine pu (.bool true) (by kernel_rfl) (pu (.bool true) (by kernel_rfl) (of_ (by kernel_rfl) (of_ (by kernel_rfl) (of_ (by kernel_rfl) (of_ (by kernel_rfl) (of_ (by kernel_rfl) (pu (.bool true) (by kernel_rfl) (pu (.bool true) (by kernel_rfl) (of_ (by kernel_rfl) ?_)))))))))
    refine of_ (by kernel_rfl) (of_ (by kernel_rfl) (of_ (by kernel_rfl) (of_ (by kernel_rfl) (of_ (by kernel_rfl) (pu (.bool true) (by kernel_rfl) (pu (.bool true) (by kernel_rfl) (of_ (by kernel_rfl) (of_ (by kernel_rfl) (of_ (by kernel_rfl) ?_)))))))))
    refine of_ (by kernel_rfl) (pu (.bool true) (by kernel_rfl) (seq_nil (wp_condT rfl (wp_seq (rgn (by kernel_rfl) (pu (.bool false) (by kernel_rfl) (seq_nil (wp_ret ?_))))))))
    replace hF := Option.some.inj hF; subst hF
    exact ⟨.bool false, Ret.r1 rfl rfl, ⟨rfl, hI.below⟩⟩
  ·
   refine seq_on (by kernel_rfl) (s_neq rfl rfl (fun _ => ?_) (fun h => absurd (a := y2383.2 = 0) h h504))
   refine pu (.bool true) (by kernel_rfl) (pu (.bool true) (by kernel_rfl) (of_ (by kernel_rfl) (of_ (by kernel_rfl) (pu (.bool true) (by kernel_rfl) (pu (.bool true) (by kernel_rfl) (of_ (by kernel_rfl) (of_ (by kernel_rfl) (of_ (by kernel_rfl) (of_ (by kernel_rfl) ?_)))))))))
   refine of_ (by kernel_rfl) (pu (.bool true) (by kernel_rfl) (pu (.bool true) (by kernel_rfl) (of_ (by kernel_rfl) (of_ (by kernel_rfl) (of_ (by kernel_rfl) (of_ (by kernel_rfl) (of_ (by kernel_rfl) (of_ (by kernel_rfl) (pu (.bool true) (by kernel_rfl) ?_)))))))))
   refine pu (.bool true) (by kernel_rfl) (of_ (by kernel_rfl) (of_ (by kernel_rfl) (of_ (by kernel_rfl) (of_ (by kernel_rfl) (pu (.bool true) (by kernel_rfl) (seq_nil (wp_condT rfl (wp_seq (rgn (by kernel_rfl) ?_)))))))))
   refine pu (.bool false) (by kernel_rfl) (seq_nil (wp_ret ?_))
   replace hF := Option.some.inj hF; subst hF
   exact ⟨.bool false, Ret.r1 rfl rfl, ⟨rfl, hI.below⟩⟩
 ·
  refine seq_c (s_neq rfl rfl (fun _ => ?_) (fun h => absurd (a := y2375.2 = 0) h h503))
  refine pu (.bool true) (by kernel_rfl) (of_ (by kernel_rfl) (of_ (by kernel_rfl) (pu (.bool true) (by kernel_rfl) (pu (.bool true) (by kernel_rfl) (of_ (by kernel_rfl) (of_ (by kernel_rfl) (pu (.bool true) (by kernel_rfl) (pu (.bool true) (by kernel_rfl) (of_ (by kernel_rfl) ?_)))))))))
  refine of_ (by kernel_rfl) (of_ (by kernel_rfl) (of_ (by kernel_rfl) (of_ (by kernel_rfl) (pu (.bool true) (by kernel_rfl) (pu (.bool true) (by kernel_rfl) (of_ (by kernel_rfl) (of_ (by kernel_rfl) (of_ (by kernel_rfl) (of_ (by kernel_rfl) ?_)))))))))
  refine of_ (by kernel_rfl) (of_ (by kernel_rfl) (pu (.bool true) (by kernel_rfl) (pu (.bool true) (by kernel_rfl) (of_ (by kernel_rfl) (of_ (by kernel_rfl) (of_ (by kernel_rfl) (of_ (by kernel_rfl) (pu (.bool true) (by kernel_rfl) (seq_nil ?_)))))))))
  refine wp_condT rfl (wp_seq (rgn (by kernel_rfl) (pu (.bool false) (by kernel_rfl) (seq_nil (wp_ret ?_)))))
  replace hF := Option.some.inj hF; subst hF
  exact ⟨.bool false, Ret.r1 rfl rfl, ⟨rfl, hI.below⟩⟩


end Go.K
