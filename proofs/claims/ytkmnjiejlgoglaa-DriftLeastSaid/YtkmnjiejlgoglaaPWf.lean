/- That the functions do what the pure definitions say: walks, as tools/lift.py writes them. No condition. -/
import Derived.Test.YtkmnjiejlgoglaaPWe
namespace Go.K
open Go.Proofs Go.RowKit
set_option linter.unusedVariables false
set_option maxRecDepth 100000
attribute [local irreducible] Seq Step CallV AnyE opX
theorem L8 (w0 : World) (Ap0_0 : Option Addr) (cp0_0 : Nat) (lp0_0 : List A2) (Ap0_1 : Option Addr) (cp0_1 : Nat) (lp0_1 : List A3) (Ap0_2 : Option Addr) (cp0_2 : Nat) (lp0_2 : List A3) (p1_0 : Int) (Ap1_1 : Option Addr) (cp1_1 : Nat) (lp1_1 : List Int) (p1_2 : Int) (p1_3 : Int) (Ap2 : Option Addr) (cp2 : Nat) (lp2 : List A2) (hCp0_0 : Cells w0 Ap0_0 (flat eA2 lp0_0)) (hMp0_0 : lp0_0.length ≤ 9223372036854775807) (hKp0_0 : lp0_0.length ≤ cp0_0) (hCp0_1 : Cells w0 Ap0_1 (flat eA3 lp0_1)) (hMp0_1 : lp0_1.length ≤ 9223372036854775807) (hKp0_1 : lp0_1.length ≤ cp0_1) (hCp0_2 : Cells w0 Ap0_2 (flat eA3 lp0_2)) (hMp0_2 : lp0_2.length ≤ 9223372036854775807) (hKp0_2 : lp0_2.length ≤ cp0_2) (hCp1_1 : Cells w0 Ap1_1 (flat eInt lp1_1)) (hMp1_1 : lp1_1.length ≤ 9223372036854775807) (hKp1_1 : lp1_1.length ≤ cp1_1) (hCp2 : Cells w0 Ap2 (flat eA2 lp2)) (hMp2 : lp2.length ≤ 9223372036854775807) (hKp2 : lp2.length ≤ cp2) (N : Nat) (r : Bool) (hF : F8 N lp0_0 lp0_1 lp0_2 p1_0 lp1_1 p1_2 p1_3 lp2 = some r) : Does Try.prog 8 [.agg #[.slice Ap0_0 lp0_0.length cp0_0, .slice Ap0_1 lp0_1.length cp0_1, .slice Ap0_2 lp0_2.length cp0_2], .agg #[.int .i64 p1_0, .slice Ap1_1 lp1_1.length cp1_1, .int .i64 p1_2, .int .i64 p1_3], .slice Ap2 lp2.length cp2] w0 fun v w => v = .bool r ∧ Below w0.heap.size w0 w := by
 refine calls_of (n := 207) Try.func8 rfl Try.ntmps8 rfl ?_
 have hI := Inv.start w0
 unfold F8 at hF
 refine wp_seq (rgn (by kernel_rfl) (seq_c (s_boxI hI [.slice Ap0_0 lp0_0.length cp0_0, .slice Ap0_1 lp0_1.length cp0_1, .slice Ap0_2 lp0_2.length cp0_2] rfl ?_)))
 intro b3442 w hI
 refine seq_c (s_boxI hI [iv p1_0, .slice Ap1_1 lp1_1.length cp1_1, iv p1_2, iv p1_3] rfl ?_)
 intro b3443 w hI
 refine pu (.bool false) (by kernel_rfl) (seq_nil (wp_cutO (fun ρ w => ∃ (v3446 : Bool), Agree ρ [(2, .slice Ap2 lp2.length cp2), (3, .pointer (some ⟨b3442, 0, none⟩)), (4, .pointer (some ⟨b3443, 0, none⟩)), (7, .bool v3446)] ∧ Inv [] w0 w [(some b3442, blk [.slice Ap0_0 lp0_0.length cp0_0, .slice Ap0_1 lp0_1.length cp0_1, .slice Ap0_2 lp0_2.length cp0_2] 96), (some b3443, blk [iv p1_0, .slice Ap1_1 lp1_1.length cp1_1, iv p1_2, iv p1_3] 69)] ∧ F8j1 lp0_0 lp0_1 lp0_2 p1_0 lp1_1 p1_2 p1_3 lp2 N v3446 = some r) ?_ ?_))
 ·
  refine rgn (by kernel_rfl) (bindE hF (fun y6881 hy6882 hF => ?_))
  refine ifE hF (fun h4036 hF => ?_) (fun h4036 hF => ?_)
  ·
   refine seq_c (s_callv hI 11 [] (.bool true) (by kernel_rfl) (Does.mono (L11 _ N _ hy6882) (fun v' w' h => ⟨h.1.trans (congrArg Value.bool h4036), h.2⟩)) ?_)
   intro w hI
   refine pu (.bool true) (by kernel_rfl) (seq_nil ?_)
   exact .inl ⟨rfl, ⟨true, ⟨rfl, rfl, rfl, rfl, trivial⟩, hI.pickL [1, 0] (by decide) rfl, hF⟩⟩
  ·
   refine seq_c (s_callv hI 11 [] (.bool false) (by kernel_rfl) (Does.mono (L11 _ N _ hy6882) (fun v' w' h => ⟨h.1.trans (congrArg Value.bool (Bool.eq_false_iff.2 h4036)), h.2⟩)) ?_)
   intro w hI
   refine pu (.bool false) (by kernel_rfl) (seq_nil ?_)
   exact .inl ⟨rfl, ⟨false, ⟨rfl, rfl, rfl, rfl, trivial⟩, hI.pickL [1, 0] (by decide) rfl, hF⟩⟩
 ·intro ρ w hJ
  obtain ⟨v3446, hag, hI, hF⟩ := hJ
  obtain ⟨ρ, rfl⟩ := hag.form; clear hag
  unfold F8j1 at hF
  refine wp_seq (rgn (by kernel_rfl) (seq_c (s_loadK hI 0 3 [.slice Ap0_0 lp0_0.length cp0_0, .slice Ap0_1 lp0_1.length cp0_1, .slice Ap0_2 lp0_2.length cp0_2] Try.isAgg96 Try.sizeOf96 rfl rfl rfl rfl ?_)))
  refine bindE hF (fun y3462 hy3463 hF => ?_)
  refine seq_c (s_call 54 [.agg #[.slice Ap0_0 lp0_0.length cp0_0, .slice Ap0_1 lp0_1.length cp0_1, .slice Ap0_2 lp0_2.length cp0_2]] (by kernel_rfl) (L54 _ Ap0_0 cp0_0 lp0_0 Ap0_1 cp0_1 lp0_1 Ap0_2 cp0_2 lp0_2 (hCp0_0.inv0 hI) hMp0_0 hKp0_0 (hCp0_1.inv0 hI) hMp0_1 hKp0_1 (hCp0_2.inv0 hI) hMp0_2 hKp0_2 N _ hy3463) ?_)
  rintro v w ⟨g3464, c3465, cl3466, g3467, c3468, cl3469, g3470, c3471, cl3472, rfl, hN, r3473, r3474, r3475⟩
  have hI := hI.join hN; clear hN
  refine pu (.tuple #[.agg #[slv g3464 y3462.1.length c3465, slv g3467 y3462.2.1.length c3468], slv g3470 y3462.2.2.length c3471]) (by kernel_rfl) (pu (.agg #[slv g3464 y3462.1.length c3465, slv g3467 y3462.2.1.length c3468]) (by kernel_rfl) (pu (slv g3470 y3462.2.2.length c3471) (by kernel_rfl) (seq_c (s_allocI hI [.slice none 0 0, .slice none 0 0] Try.zeroValue25 rfl ?_))))
  intro b3476 w hI
  refine seq_c (s_store hI 0 2 [slv g3464 y3462.1.length c3465, slv g3467 y3462.2.1.length c3468] Try.sizeOf25 rfl rfl rfl rfl rfl (Nat.le_of_ble_eq_true rfl) ?_)
  intro w hI
  refine pu (slv g3470 y3462.2.2.length c3471) (by kernel_rfl) (seq_nil (wp_seq (rgn (by kernel_rfl) (seq_c (s_loadK hI 0 2 [slv g3464 y3462.1.length c3465, slv g3467 y3462.2.1.length c3468] Try.isAgg25 Try.sizeOf25 rfl rfl rfl rfl ?_)))))
  refine pu (slv g3470 y3462.2.2.length c3471) (by kernel_rfl) (bindE hF (fun y3480 hy3481 hF => ?_))
  refine seq_c (s_callv hI 37 [.agg #[slv g3464 y3462.1.length c3465, slv g3467 y3462.2.1.length c3468], slv g3470 y3462.2.2.length c3471] (.tuple #[.agg #[iv y3480.1, iv y3480.2.1], iv y3480.2.2]) (by kernel_rfl) (L37 _ (g3464.map fun b => ⟨b, 0, none⟩) c3465 y3462.1 (g3467.map fun b => ⟨b, 0, none⟩) c3468 y3462.2.1 (g3470.map fun b => ⟨b, 0, none⟩) c3471 y3462.2.2 (hI.rowCells 1 rfl r3473) (len_le rfl r3473.big) (len_le rfl r3473.cap) (hI.rowCells 2 rfl r3474) (len_le rfl r3474.big) (len_le rfl r3474.cap) (hI.rowCells 3 rfl r3475) (len_le rfl r3475.big) (len_le rfl r3475.cap) N _ hy3481) ?_)
  intro w hI
  refine pu (.tuple #[.agg #[iv y3480.1, iv y3480.2.1], iv y3480.2.2]) (by kernel_rfl) (pu (.agg #[iv y3480.1, iv y3480.2.1]) (by kernel_rfl) (pu (iv y3480.2.2) (by kernel_rfl) (seq_c (s_allocI hI [iv 0, iv 0] Try.zeroValue51 rfl ?_))))
  intro b3482 w hI
  refine seq_c (s_store hI 0 2 [iv y3480.1, iv y3480.2.1] Try.sizeOf51 rfl rfl rfl rfl rfl (Nat.le_of_ble_eq_true rfl) ?_)
  intro w hI
  refine pu (iv y3480.2.2) (by kernel_rfl) (seq_nil (wp_seq (rgn (by kernel_rfl) (seq_c (s_loadK hI 1 2 [slv g3464 y3462.1.length c3465, slv g3467 y3462.2.1.length c3468] Try.isAgg25 Try.sizeOf25 rfl rfl rfl rfl ?_)))))
  refine pu (slv g3470 y3462.2.2.length c3471) (by kernel_rfl) (bindE hF (fun y3489 hy3490 hF => ?_))
  refine seq_c (s_call 49 [.agg #[slv g3464 y3462.1.length c3465, slv g3467 y3462.2.1.length c3468], slv g3470 y3462.2.2.length c3471] (by kernel_rfl) (L49 _ (g3464.map fun b => ⟨b, 0, none⟩) c3465 y3462.1 (g3467.map fun b => ⟨b, 0, none⟩) c3468 y3462.2.1 (g3470.map fun b => ⟨b, 0, none⟩) c3471 y3462.2.2 (hI.rowCells 2 rfl r3473) (len_le rfl r3473.big) (len_le rfl r3473.cap) (hI.rowCells 3 rfl r3474) (len_le rfl r3474.big) (len_le rfl r3474.cap) (hI.rowCells 4 rfl r3475) (len_le rfl r3475.big) (len_le rfl r3475.cap) N _ hy3490) ?_)
  rintro v w ⟨g3491, c3492, cl3493, rfl, hN, r3494⟩
  have hI := hI.join hN; clear hN
  refine pu (.tuple #[slv g3491 y3489.1.length c3492, iv y3489.2]) (by kernel_rfl) (pu (slv g3491 y3489.1.length c3492) (by kernel_rfl) (pu (iv y3489.2) (by kernel_rfl) (pu (slv g3491 y3489.1.length c3492) (by kernel_rfl) (pu (iv y3489.2) (by kernel_rfl) (seq_nil (wp_seq (rgn (by kernel_rfl) (seq_c (s_loadK hI 2 2 [slv g3464 y3462.1.length c3465, slv g3467 y3462.2.1.length c3468] Try.isAgg25 Try.sizeOf25 rfl rfl rfl rfl ?_)))))))))
  refine pu (slv g3470 y3462.2.2.length c3471) (by kernel_rfl) (bindE hF (fun y3502 hy3503 hF => ?_))
  refine seq_c (s_call 50 [.agg #[slv g3464 y3462.1.length c3465, slv g3467 y3462.2.1.length c3468], slv g3470 y3462.2.2.length c3471] (by kernel_rfl) (L50 _ (g3464.map fun b => ⟨b, 0, none⟩) c3465 y3462.1 (g3467.map fun b => ⟨b, 0, none⟩) c3468 y3462.2.1 (g3470.map fun b => ⟨b, 0, none⟩) c3471 y3462.2.2 (hI.rowCells 3 rfl r3473) (len_le rfl r3473.big) (len_le rfl r3473.cap) (hI.rowCells 4 rfl r3474) (len_le rfl r3474.big) (len_le rfl r3474.cap) (hI.rowCells 5 rfl r3475) (len_le rfl r3475.big) (len_le rfl r3475.cap) N _ hy3503) ?_)
  rintro v w ⟨g3504, c3505, cl3506, rfl, hN, r3507⟩
  have hI := hI.join hN; clear hN
  refine pu (.tuple #[.agg #[iv y3502.1, slv g3504 y3502.2.1.length c3505], iv y3502.2.2]) (by kernel_rfl) (pu (.agg #[iv y3502.1, slv g3504 y3502.2.1.length c3505]) (by kernel_rfl) (pu (iv y3502.2.2) (by kernel_rfl) (seq_c (s_allocI hI [iv 0, .slice none 0 0] Try.zeroValue67 rfl ?_))))
  intro b3508 w hI
  refine seq_c (s_store hI 0 2 [iv y3502.1, slv g3504 y3502.2.1.length c3505] Try.sizeOf67 rfl rfl rfl rfl rfl (Nat.le_of_ble_eq_true rfl) ?_)
  intro w hI
  refine pu (iv y3502.2.2) (by kernel_rfl) (seq_nil (wp_seq (wp_seq ?_)))
  have hG := hF; rcases Bool.eq_false_or_eq_true v3446 with rfl | rfl
  ·
   have hF := hG; clear hG
   refine ifE hF (fun _ hF => ?_) (fun h => absurd rfl h)
   refine rgn (by kernel_rfl) (pu (.bool true) (by kernel_rfl) (pu (.bool false) (by kernel_rfl) (pu (.bool false) (by kernel_rfl) (puo (iv y3480.2.2) ⟨(by kernel_rfl), (by kernel_rfl)⟩ (puo (iv y3489.2) ⟨(by kernel_rfl), (by kernel_rfl)⟩ (ifE hF (fun h2026 hF => ?_) (fun h2026 hF => ?_)))))))
   ·
    refine seq_on (by kernel_rfl) (s_neq rfl rfl (fun h => absurd (a := y3480.2.2 = y3489.2) h2026 h) (fun _ => ?_))
    refine pu (.bool false) (by kernel_rfl) (pu (.bool false) (by kernel_rfl) (puo (iv y3480.2.2) ⟨(by kernel_rfl), (by kernel_rfl)⟩ (puo (iv y3502.2.2) ⟨(by kernel_rfl), (by kernel_rfl)⟩ (ifE hF (fun h2027 hF => ?_) (fun h2027 hF => ?_)))))
    ·
     refine seq_on (by kernel_rfl) (s_neq rfl rfl (fun h => absurd (a := y3480.2.2 = y3502.2.2) h2027 h) (fun _ => ?_))
     refine pu (.bool false) (by kernel_rfl) (seq_nil (wp_condF rfl (wp_skip (wp_seq (wp_seq (rgn (by kernel_rfl) (pu (iv y3480.2.2) (by kernel_rfl) (ifE hF (fun h2033 hF => ?_) (fun h2033 hF => ?_)))))))))
     ·
      refine seq_c (s_neq rfl rfl (fun h => absurd (a := y3480.2.2 = 0) h2033 h) (fun _ => ?_))
      refine seq_nil (wp_condF rfl (wp_skip (wp_seq (wp_seq (rgn (by kernel_rfl) (seq_c (s_loadK hI 4 2 [slv g3464 y3462.1.length c3465, slv g3467 y3462.2.1.length c3468] Try.isAgg25 Try.sizeOf25 rfl rfl rfl rfl ?_)))))))
      refine pu (slv g3470 y3462.2.2.length c3471) (by kernel_rfl) (seq_c (s_loadK hI 0 2 [iv y3502.1, slv g3504 y3502.2.1.length c3505] Try.isAgg67 Try.sizeOf67 rfl rfl rfl rfl ?_))
      refine seq_c (s_loadK hI 3 2 [iv y3480.1, iv y3480.2.1] Try.isAgg51 Try.sizeOf51 rfl rfl rfl rfl ?_)
      refine bindE hF (fun y3516 hy3517 hF => ?_)
      refine seq_c (s_callv hI 47 [.agg #[slv g3464 y3462.1.length c3465, slv g3467 y3462.2.1.length c3468], slv g3470 y3462.2.2.length c3471, .agg #[iv y3502.1, slv g3504 y3502.2.1.length c3505], .agg #[iv y3480.1, iv y3480.2.1]] (iv y3516) (by kernel_rfl) (L47 _ (g3464.map fun b => ⟨b, 0, none⟩) c3465 y3462.1 (g3467.map fun b => ⟨b, 0, none⟩) c3468 y3462.2.1 (g3470.map fun b => ⟨b, 0, none⟩) c3471 y3462.2.2 y3502.1 (g3504.map fun b => ⟨b, 0, none⟩) c3505 y3502.2.1 (⟨y3480.1, y3480.2.1⟩ : Gn) (hI.rowCells 5 rfl r3473) (len_le rfl r3473.big) (len_le rfl r3473.cap) (hI.rowCells 6 rfl r3474) (len_le rfl r3474.big) (len_le rfl r3474.cap) (hI.rowCells 7 rfl r3475) (len_le rfl r3475.big) (len_le rfl r3475.cap) (hI.rowCells 1 rfl r3507) (len_le rfl r3507.big) (len_le rfl r3507.cap) N _ hy3517) ?_)
      intro w hI
      refine ifE hF (fun h2037 hF => ?_) (fun h2037 hF => ?_)
      ·
       refine seq_c (s_neq rfl rfl (fun h => absurd (a := y3516 = 0) h2037 h) (fun _ => ?_))
       refine seq_nil (wp_condF rfl (wp_skip (wp_seq (rgn (by kernel_rfl) (pu (.slice none 0 0) (by kernel_rfl) (seq_nil (wp_seq (rgn (by kernel_rfl) (pu (iv 0) (by kernel_rfl) ?_)))))))))
       refine seq_nil (wp_cutO (fun ρ w => ∃ (g3846 : Option Nat) (c3847 : Nat) (cl3848 : List Value) (g3851 : Option Nat) (c3852 : Nat) (cl3853 : List Value) (u3850 : List Dr), Agree ρ [(4, .pointer (some ⟨b3443, 0, none⟩)), (8, .pointer (some ⟨b3476, 0, none⟩)), (9, slv g3846 y3462.2.2.length c3847), (10, .pointer (some ⟨b3482, 0, none⟩)), (12, slv g3491 y3489.1.length c3492), (16, slv g3851 u3850.length c3852)] ∧ Inv [] w0 w [(some b3443, blk [iv p1_0, .slice Ap1_1 lp1_1.length cp1_1, iv p1_2, iv p1_3] 69), (some b3476, blk [slv g3464 y3462.1.length c3465, slv g3467 y3462.2.1.length c3468] 25), (g3464, blk cl3466 30), (g3467, blk cl3469 32), (g3846, blk cl3848 34), (some b3482, blk [iv y3480.1, iv y3480.2.1] 51), (g3491, blk cl3493 49), (g3851, blk cl3853 49)] ∧ (Row 4 g3846 (y3462.2.2.length) c3847 cl3848 (flat eCl y3462.2.2)) ∧ (Row 2 g3851 (u3850.length) c3852 cl3853 (flat eDr u3850)) ∧ F8j2 p1_0 lp1_1 p1_2 p1_3 N y3462 y3480 y3489 u3850 = some r) ?_ ?_)
       ·
        refine wp_seq (rgn (by kernel_rfl) (pu (iv 0) (by kernel_rfl) (seq_nil (wp_block ?_))))
        have hI := hI.nilRow 49
        refine wp_loop (fun m ρ w => ∃ (g6767 : Option Nat) (c6768 : Nat) (cl6769 : List Value) (g6772 : Option Nat) (c6773 : Nat) (cl6774 : List Value) (u6771 : List Dr) (v6776 : Int) (v6777 : Int) (mm : Nat), Agree ρ [(2, .slice Ap2 lp2.length cp2), (4, .pointer (some ⟨b3443, 0, none⟩)), (8, .pointer (some ⟨b3476, 0, none⟩)), (9, slv g6767 y3462.2.2.length c6768), (10, .pointer (some ⟨b3482, 0, none⟩)), (12, slv g3491 y3489.1.length c3492), (16, slv g6772 u6771.length c6773), (17, iv v6776), (18, iv v6777)] ∧ Inv [] w0 w [(some b3443, blk [iv p1_0, .slice Ap1_1 lp1_1.length cp1_1, iv p1_2, iv p1_3] 69), (some b3476, blk [slv g3464 y3462.1.length c3465, slv g3467 y3462.2.1.length c3468] 25), (g3464, blk cl3466 30), (g3467, blk cl3469 32), (g6767, blk cl6769 34), (some b3482, blk [iv y3480.1, iv y3480.2.1] 51), (g3491, blk cl3493 49), (g6772, blk cl6774 49)] ∧ (Row 4 g6767 (y3462.2.2.length) c6768 cl6769 (flat eCl y3462.2.2)) ∧ (Row 2 g6772 (u6771.length) c6773 cl6774 (flat eDr u6771)) ∧ F8l11 p1_0 lp1_1 p1_2 p1_3 lp2 N y3462 y3480 y3489 mm u6771 v6776 v6777 = some r ∧ mm = m) (m := N) ⟨g3470, c3471, cl3472, none, 0, [], [], 0, 0, N, ⟨rfl, rfl, rfl, rfl, rfl, rfl, rfl, rfl, rfl, trivial⟩, hI.pickL [10, 5, 6, 7, 8, 4, 3, 0] (by decide) rfl, (r3475.to rfl rfl), (Row.nil_ 2), hF, rfl⟩ ?_
        rintro m ρ w ⟨g6767, c6768, cl6769, g6772, c6773, cl6774, u6771, v6776, v6777, mm, hag, hI, r6770, r6775, hF, hm⟩
        subst hm; obtain ⟨ρ, rfl⟩ := hag.form; clear hag
        obtain _ | m11 := mm
        ·cases (show (none : Option Bool) = some r from hF)
        replace hF : F8b11 p1_0 lp1_1 p1_2 p1_3 lp2 N y3462 y3480 y3489 (F8l11 p1_0 lp1_1 p1_2 p1_3 lp2 N y3462 y3480 y3489 m11) u6771 v6776 v6777 = some r := hF; unfold F8b11 at hF
        refine wp_seq (wp_seq (rgn (by kernel_rfl) (pu (iv v6777) (by kernel_rfl) (pu (slv g6767 y3462.2.2.length c6768) (by kernel_rfl) (pu (iv ((y3462.2.2.length : Nat) : Int)) (by kernel_rfl) (ifE hF (fun h4002 hF => ?_) (fun h4002 hF => ?_)))))))
        ·
         refine seq_c (s_lss rfl rfl (fun _ => ?_) (fun h => absurd (a := v6777 < (y3462.2.2.length : Int)) h4002 h))
         refine seq_nil (wp_condT rfl (wp_skip (wp_seq (wp_block ?_))))
         refine wp_seq (rgn (by kernel_rfl) (pu (.agg #[iv 0, iv 0]) (by kernel_rfl) (seq_c (s_allocI hI [iv 0, iv 0] Try.zeroValue101 rfl ?_))))
         intro b6829 w hI
         refine seq_c (s_store hI 0 2 [iv 0, iv 0] Try.sizeOf101 rfl rfl rfl rfl rfl (Nat.le_of_ble_eq_true rfl) ?_)
         intro w hI
         refine seq_nil (wp_cutO (fun ρ w => ∃ (v6837 : Int) (v6838 : Int), Agree ρ [(2, .slice Ap2 lp2.length cp2), (4, .pointer (some ⟨b3443, 0, none⟩)), (8, .pointer (some ⟨b3476, 0, none⟩)), (9, slv g6767 y3462.2.2.length c6768), (10, .pointer (some ⟨b3482, 0, none⟩)), (12, slv g3491 y3489.1.length c3492), (16, slv g6772 u6771.length c6773), (17, iv v6776), (18, iv v6777), (19, .pointer (some ⟨b6829, 0, none⟩))] ∧ Inv [] w0 w [(some b3443, blk [iv p1_0, .slice Ap1_1 lp1_1.length cp1_1, iv p1_2, iv p1_3] 69), (some b3476, blk [slv g3464 y3462.1.length c3465, slv g3467 y3462.2.1.length c3468] 25), (g3464, blk cl3466 30), (g3467, blk cl3469 32), (g6767, blk cl6769 34), (some b3482, blk [iv y3480.1, iv y3480.2.1] 51), (g3491, blk cl3493 49), (g6772, blk cl6774 49), (some b6829, blk [iv v6837, iv v6838] 101)] ∧ F8j12 (F8l11 p1_0 lp1_1 p1_2 p1_3 lp2 N y3462 y3480 y3489 m11) y3462 u6771 v6776 v6777 v6837 v6838 = some r) ?_ ?_)
         ·
          refine wp_seq (rgn (by kernel_rfl) (pu (iv v6777) (by kernel_rfl) (pu (.slice Ap2 lp2.length cp2) (by kernel_rfl) (pu (iv ((lp2.length : Nat) : Int)) (by kernel_rfl) (ifE hF (fun h4032 hF => ?_) (fun h4032 hF => ?_))))))
          ·
           refine seq_c (s_lss rfl rfl (fun _ => ?_) (fun h => absurd (a := v6777 < (lp2.length : Int)) h4032 h))
           refine seq_nil (wp_condT rfl (rgn (by kernel_rfl) (pu (.slice Ap2 lp2.length cp2) (by kernel_rfl) (pu (iv v6777) (by kernel_rfl) (gdE hF (fun h4033 hF => ?_))))))
           refine bindE hF (fun x6873 hx6874 hF => ?_)
           obtain ⟨b6875, o6876, hA6877, hb6878, he6879⟩ := hCp2.at_ eA2_len (by decide) hx6874
           refine seq_c (s_indexA (v6777).toNat Try.underlying93 Try.sizeOf101 rfl hA6877 rfl (Int.toNat_of_nonneg h4033).symm (lt_n hx6874 rfl) ?_)
           refine seq_c (s_loadBK hI [iv x6873.a, iv x6873.b] Try.isAgg101 Try.sizeOf101 rfl rfl hb6878 (by simp) he6879 ?_)
           refine seq_c (s_store hI 0 2 [iv x6873.a, iv x6873.b] Try.sizeOf101 rfl rfl rfl rfl rfl (Nat.le_of_ble_eq_true rfl) ?_)
           intro w hI
           refine seq_nil ?_
           exact .inl ⟨rfl, ⟨x6873.a, x6873.b, ⟨rfl, rfl, rfl, rfl, rfl, rfl, rfl, rfl, rfl, rfl, trivial⟩, hI.pickL [1, 2, 3, 4, 5, 6, 7, 8, 0] (by decide) rfl, hF⟩⟩
          ·
           refine seq_c (s_lss rfl rfl (fun h => absurd (a := v6777 < (lp2.length : Int)) h h4032) (fun _ => ?_))
           refine seq_nil (wp_condF rfl (wp_skip ?_))
           exact .inl ⟨rfl, ⟨0, 0, ⟨rfl, rfl, rfl, rfl, rfl, rfl, rfl, rfl, rfl, rfl, trivial⟩, hI.pickL [1, 2, 3, 4, 5, 6, 7, 8, 0] (by decide) rfl, hF⟩⟩
         ·intro ρ w hJ
          obtain ⟨v6837, v6838, hag, hI, hF⟩ := hJ
          obtain ⟨ρ, rfl⟩ := hag.form; clear hag
          unfold F8j12 at hF
          refine wp_seq (gdE hF (fun h4023 hF => ?_))
          refine bindE hF (fun x6849 hx6850 hF => ?_)
          refine bindE hF (fun y6853 hy6854 hF => ?_)
          refine ckE hF (fun h4024 hF => ?_)
          refine wp_drawn2 hI [0, 1, 2, 3, 4, 5, 6, 7, 8] (by decide) rfl (by kernel_rfl) (by kernel_rfl) ?_
          intro hsub
          refine alp 0 (iv v6776) hsub rfl (by kernel_rfl) (fun _ => (by kernel_rfl)) ?_
          refine alp 1 (slv g6767 y3462.2.2.length c6768) hsub rfl (by kernel_rfl) (fun _ => (by kernel_rfl)) ?_
          refine alp 2 (iv v6777) hsub rfl (by kernel_rfl) (fun _ => (by kernel_rfl)) ?_
          obtain ⟨b6856, rfl, he6857⟩ := r6770.at_ eCl_len (by decide) hx6850
          refine al_light 3 (.pointer (some ⟨b6856, (v6777).toNat * 4, none⟩)) hsub rfl (by kernel_rfl) (fun w hI => s_indexR (v6777).toNat Try.underlying26 Try.sizeOf34 rfl rfl (Int.toNat_of_nonneg h4023).symm (lt_n hx6850 rfl) ⟨rfl, Below.refl _ _⟩) ?_
          refine alp 4 (.pointer (some ⟨b6856, (v6777).toNat * 4 + 2, none⟩)) hsub rfl (by kernel_rfl) (fun _ => (by kernel_rfl)) ?_
          refine al_light 5 (iv x6849.fr) hsub rfl (by kernel_rfl) (fun w hI => s_loadR1 hI 4 (iv x6849.fr) Try.isAgg3 rfl rfl (he6857 2 _ rfl) ⟨rfl, Below.refl _ _⟩) ?_
          refine alp 6 (iv (if x6849.fr > v6776 then x6849.fr else v6776)) hsub rfl (by kernel_rfl) (fun _ => (by kernel_rfl)) ?_
          refine alp 7 (.pointer (some ⟨b6829, 0, none⟩)) hsub rfl (by kernel_rfl) (fun _ => (by kernel_rfl)) ?_
          refine al_light 8 (iv v6837) hsub rfl (by kernel_rfl) (fun w hI => s_load1 hI 8 (iv v6837) Try.isAgg3 rfl rfl rfl ⟨rfl, Below.refl _ _⟩) ?_
          refine al_light 9 (iv y6853) hsub rfl (by kernel_rfl) (fun w hI => s_call 56 [iv v6837, iv 2] (by kernel_rfl) (L56 _ v6837 2 _ hy6854) (fun v' w' h => h)) ?_
          refine al_light 10 (iv ((if x6849.fr > v6776 then x6849.fr else v6776) + y6853)) hsub rfl (by kernel_rfl) (fun w hI => s_add rfl rfl h4024 ⟨rfl, Below.refl _ _⟩) ?_
          refine alp 11 (.agg #[iv ((if x6849.fr > v6776 then x6849.fr else v6776) + y6853), iv 0]) hsub rfl (by kernel_rfl) (fun _ => (by kernel_rfl)) ?_
          refine any_heavy [12] (by kernel_rfl) rfl (each1 ?_)
          intro w hI
          refine ol_c rfl (s_allocI hI [iv 0, iv 0] Try.zeroValue49 rfl ?_)
          intro b6858 w hI
          refine ⟨_, hI, subk (fun _ h => h.pickL [1, 2, 3, 4, 5, 6, 7, 8, 9] (by decide) rfl) ?_⟩
          intro hsub
          refine any_heavy [13] (by kernel_rfl) rfl (each1 ?_)
          intro w hI
          refine ol_c rfl (s_store hI 0 2 [iv ((if x6849.fr > v6776 then x6849.fr else v6776) + y6853), iv 0] Try.sizeOf49 rfl rfl rfl rfl rfl (Nat.le_of_ble_eq_true rfl) ?_)
          intro w hI
          refine ⟨_, hI, subk (fun _ h => h.pickL [1, 2, 3, 4, 5, 6, 7, 8, 9] (by decide) rfl) ?_⟩
          intro hsub
          refine any_end (by kernel_rfl) (fun w hI => ?_)
          refine wp_seq (bindE hF (fun y6861 hy6862 hF => ?_))
          refine ckE hF (fun h4026 hF => ?_)
          replace hI := hI.pickL [1, 2, 3, 4, 5, 6, 7, 8, 9, 0] (by decide) rfl
          refine wp_drawn2 hI [0, 1, 2, 3, 4, 5, 6, 7, 8] (by decide) rfl (by kernel_rfl) (by kernel_rfl) ?_
          intro hsub
          refine alp 0 (.pointer (some ⟨b6858, 0, none⟩)) hsub rfl (by kernel_rfl) (fun _ => (by kernel_rfl)) ?_
          refine alp 2 (.pointer (some ⟨b6829, 1, none⟩)) hsub rfl (by kernel_rfl) (fun _ => (by kernel_rfl)) ?_
          refine al_light 3 (iv v6838) hsub rfl (by kernel_rfl) (fun w hI => s_load1 hI 8 (iv v6838) Try.isAgg3 rfl rfl rfl ⟨rfl, Below.refl _ _⟩) ?_
          refine al_light 4 (iv y6861) hsub rfl (by kernel_rfl) (fun w hI => s_call 56 [iv v6838, iv 3] (by kernel_rfl) (L56 _ v6838 3 _ hy6862) (fun v' w' h => h)) ?_
          refine any_heavy [1] (by kernel_rfl) rfl (each1 ?_)
          intro w hI
          refine ol_c rfl (s_load1 hI 9 (iv ((if x6849.fr > v6776 then x6849.fr else v6776) + y6853)) Try.isAgg3 rfl rfl rfl ?_)
          refine ⟨_, hI, subk (fun _ h => h.pickL [0, 1, 2, 3, 4, 5, 6, 7, 8] (by decide) rfl) ?_⟩
          intro hsub
          refine al_light 5 (iv (((if x6849.fr > v6776 then x6849.fr else v6776) + y6853) + y6861)) hsub rfl (by kernel_rfl) (fun w hI => s_add rfl rfl h4026 ⟨rfl, Below.refl _ _⟩) ?_
          refine alp 6 (.pointer (some ⟨b6858, 1, none⟩)) hsub rfl (by kernel_rfl) (fun _ => (by kernel_rfl)) ?_
          refine any_heavy [7] (by kernel_rfl) rfl (each1 ?_)
          intro w hI
          refine ol_c rfl (s_store hI 9 1 [iv (((if x6849.fr > v6776 then x6849.fr else v6776) + y6853) + y6861)] Try.sizeOf3 rfl rfl rfl rfl rfl (Nat.le_of_ble_eq_true rfl) ?_)
          intro w hI
          refine ⟨_, hI, subk (fun _ h => h.pickL [0, 1, 2, 3, 4, 5, 6, 7, 8] (by decide) rfl) ?_⟩
          intro hsub
          refine any_end (by kernel_rfl) (fun w hI => ?_)
          refine wp_seq (rgn (by kernel_rfl) (pu (slv g6772 u6771.length c6773) (by kernel_rfl) (seq_c (s_loadK hI 9 2 [iv ((if x6849.fr > v6776 then x6849.fr else v6776) + y6853), iv (((if x6849.fr > v6776 then x6849.fr else v6776) + y6853) + y6861)] Try.isAgg49 Try.sizeOf49 rfl rfl rfl rfl ?_))))
          refine seq_c (s_new hI [iv ((if x6849.fr > v6776 then x6849.fr else v6776) + y6853), iv (((if x6849.fr > v6776 then x6849.fr else v6776) + y6853) + y6861)] 49 (fun b => slv (some b) 1 1) (by kernel_rfl) ?_)
          intro b6868 w hI
          refine gdE hF (fun h4028 hF => ?_)
          refine seq_c (s_appN hI Try.underlying63 (z := .agg #[iv 0, iv 0]) (k := 2) (bytes := 16) (by kernel_rfl) rfl rfl 8 rfl rfl r6775 [iv ((if x6849.fr > v6776 then x6849.fr else v6776) + y6853), iv (((if x6849.fr > v6776 then x6849.fr else v6776) + y6853) + y6861)] rfl rfl (hI.cells 0 (off := 0) rfl (fun j u h => by rw [Nat.zero_add]; exact h)) (by simp [Value.oneCell']) (by omega) (by omega) (n2 := (u6771 ++ [(⟨(if x6849.fr > v6776 then x6849.fr else v6776) + y6853, ((if x6849.fr > v6776 then x6849.fr else v6776) + y6853) + y6861⟩ : Dr)]).length) (app_len rfl rfl) ?_)
          intro g6869 c6870 cl6871 w hI r6872
          have r6872 : Row 2 g6869 ((u6771 ++ [(⟨(if x6849.fr > v6776 then x6849.fr else v6776) + y6853, ((if x6849.fr > v6776 then x6849.fr else v6776) + y6853) + y6861⟩ : Dr)]).length) c6870 cl6871 (flat eDr (u6771 ++ [(⟨(if x6849.fr > v6776 then x6849.fr else v6776) + y6853, ((if x6849.fr > v6776 then x6849.fr else v6776) + y6853) + y6861⟩ : Dr)])) := r6872.snoc _ rfl
          refine pu (slv g6869 ((u6771 ++ [(⟨(if x6849.fr > v6776 then x6849.fr else v6776) + y6853, ((if x6849.fr > v6776 then x6849.fr else v6776) + y6853) + y6861⟩ : Dr)]).length) c6870) (by kernel_rfl) (seq_nil (rgn (by kernel_rfl) (pu (.pointer (some ⟨b6858, 1, none⟩)) (by kernel_rfl) (seq_c (s_load1 hI 10 (iv (((if x6849.fr > v6776 then x6849.fr else v6776) + y6853) + y6861)) Try.isAgg3 rfl rfl rfl ?_)))))
          refine ckE hF (fun h4029 hF => ?_)
          refine seq_c (s_add rfl rfl h4029 ?_)
          refine pu (iv ((((if x6849.fr > v6776 then x6849.fr else v6776) + y6853) + y6861) + 1)) (by kernel_rfl) (seq_nil (rgn (by kernel_rfl) (pu (iv v6777) (by kernel_rfl) (ckE hF (fun h4030 hF => ?_)))))
          refine seq_c (s_add rfl rfl h4030 ?_)
          refine pu (iv (v6777 + 1)) (by kernel_rfl) (seq_nil ?_)
          exact ⟨rfl, m11, Nat.lt_succ_self _, ⟨some b6856, c6768, cl6769, g6869, c6870, cl6871, u6771 ++ [(⟨(if x6849.fr > v6776 then x6849.fr else v6776) + y6853, ((if x6849.fr > v6776 then x6849.fr else v6776) + y6853) + y6861⟩ : Dr)], (((if x6849.fr > v6776 then x6849.fr else v6776) + y6853) + y6861) + 1, v6777 + 1, m11, ⟨rfl, rfl, rfl, rfl, rfl, rfl, rfl, rfl, rfl, trivial⟩, hI.pickL [1, 2, 3, 4, 5, 6, 7, 8] (by decide) rfl, (r6770.to rfl rfl), (r6872.to rfl rfl), hF, rfl⟩⟩
        ·
         refine seq_c (s_lss rfl rfl (fun h => absurd (a := v6777 < (y3462.2.2.length : Int)) h h4002) (fun _ => ?_))
         refine seq_nil (wp_condF rfl (wp_exit ?_))
         exact .inl ⟨rfl, ⟨g6767, c6768, cl6769, g6772, c6773, cl6774, u6771, ⟨rfl, rfl, rfl, rfl, rfl, rfl, trivial⟩, hI.pickL [0, 1, 2, 3, 4, 5, 6, 7] (by decide) rfl, (r6770.to rfl rfl), (r6775.to rfl rfl), hF⟩⟩
       ·intro ρ w hJ
        obtain ⟨g3846, c3847, cl3848, g3851, c3852, cl3853, u3850, hag, hI, r3849, r3854, hF⟩ := hJ
        obtain ⟨ρ, rfl⟩ := hag.form; clear hag
        unfold F8j2 at hF
        refine wp_seq (rgn (by kernel_rfl) (pu (slv g3491 y3489.1.length c3492) (by kernel_rfl) (pu (slv g3851 u3850.length c3852) (by kernel_rfl) (pu (.agg #[slv g3491 y3489.1.length c3492, slv g3851 u3850.length c3852]) (by kernel_rfl) (seq_c (s_allocI hI [.slice none 0 0, .slice none 0 0] Try.zeroValue105 rfl ?_))))))
        intro b3855 w hI
        refine seq_c (s_store hI 0 2 [slv g3491 y3489.1.length c3492, slv g3851 u3850.length c3852] Try.sizeOf105 rfl rfl rfl rfl rfl (Nat.le_of_ble_eq_true rfl) ?_)
        intro w hI
        refine seq_nil (wp_seq (wp_seq (rgn (by kernel_rfl) (pu (iv 0) (by kernel_rfl) (seq_nil (wp_block ?_))))))
        refine wp_loop (fun m ρ w => ∃ (v6085 : Int) (mm : Nat), Agree ρ [(4, .pointer (some ⟨b3443, 0, none⟩)), (8, .pointer (some ⟨b3476, 0, none⟩)), (9, slv g3846 y3462.2.2.length c3847), (10, .pointer (some ⟨b3482, 0, none⟩)), (21, .pointer (some ⟨b3855, 0, none⟩)), (22, iv v6085)] ∧ Inv [] w0 w [(some b3443, blk [iv p1_0, .slice Ap1_1 lp1_1.length cp1_1, iv p1_2, iv p1_3] 69), (some b3476, blk [slv g3464 y3462.1.length c3465, slv g3467 y3462.2.1.length c3468] 25), (g3464, blk cl3466 30), (g3467, blk cl3469 32), (g3846, blk cl3848 34), (some b3482, blk [iv y3480.1, iv y3480.2.1] 51), (some b3855, blk [slv g3491 y3489.1.length c3492, slv g3851 u3850.length c3852] 105), (g3491, blk cl3493 49), (g3851, blk cl3853 49)] ∧ F8l3 p1_0 lp1_1 p1_2 p1_3 N y3462 y3480 y3489 u3850 mm v6085 = some r ∧ mm = m) (m := N) ⟨0, N, ⟨rfl, rfl, rfl, rfl, rfl, rfl, trivial⟩, hI.pickL [1, 2, 3, 4, 5, 6, 0, 7, 8] (by decide) rfl, hF, rfl⟩ ?_
        rintro m ρ w ⟨v6085, mm, hag, hI, hF, hm⟩
        subst hm; obtain ⟨ρ, rfl⟩ := hag.form; clear hag
        obtain _ | m3 := mm
        ·cases (show (none : Option Bool) = some r from hF)
        replace hF : F8b3 p1_0 lp1_1 p1_2 p1_3 N y3462 y3480 y3489 u3850 (F8l3 p1_0 lp1_1 p1_2 p1_3 N y3462 y3480 y3489 u3850 m3) v6085 = some r := hF; unfold F8b3 at hF
        refine wp_seq (wp_seq (rgn (by kernel_rfl) (pu (iv v6085) (by kernel_rfl) (ifE hF (fun h3628 hF => ?_) (fun h3628 hF => ?_)))))
        ·
         refine seq_c (s_lss rfl rfl (fun _ => ?_) (fun h => absurd (a := v6085 < 2) h3628 h))
         refine seq_nil (wp_condT rfl (wp_skip (wp_cutO (fun ρ w => Agree ρ [(4, .pointer (some ⟨b3443, 0, none⟩)), (8, .pointer (some ⟨b3476, 0, none⟩)), (9, slv g3846 y3462.2.2.length c3847), (10, .pointer (some ⟨b3482, 0, none⟩)), (21, .pointer (some ⟨b3855, 0, none⟩)), (22, iv v6085)] ∧ Inv [] w0 w [(some b3443, blk [iv p1_0, .slice Ap1_1 lp1_1.length cp1_1, iv p1_2, iv p1_3] 69), (some b3476, blk [slv g3464 y3462.1.length c3465, slv g3467 y3462.2.1.length c3468] 25), (g3464, blk cl3466 30), (g3467, blk cl3469 32), (g3846, blk cl3848 34), (some b3482, blk [iv y3480.1, iv y3480.2.1] 51), (some b3855, blk [slv g3491 y3489.1.length c3492, slv g3851 u3850.length c3852] 105), (g3491, blk cl3493 49), (g3851, blk cl3853 49)] ∧ F8j4 (F8l3 p1_0 lp1_1 p1_2 p1_3 N y3462 y3480 y3489 u3850 m3) v6085 = some r) ?_ ?_)))
         ·
          refine wp_block ?_
          refine wp_cutO (fun ρ w => ∃ (g6340 : Option Nat) (c6341 : Nat) (cl6342 : List Value) (u6339 : List Gn) (v6344 : Int), Agree ρ [(4, .pointer (some ⟨b3443, 0, none⟩)), (8, .pointer (some ⟨b3476, 0, none⟩)), (9, slv g3846 y3462.2.2.length c3847), (10, .pointer (some ⟨b3482, 0, none⟩)), (21, .pointer (some ⟨b3855, 0, none⟩)), (22, iv v6085), (23, slv g6340 u6339.length c6341), (24, iv v6344)] ∧ Inv [] w0 w [(some b3443, blk [iv p1_0, .slice Ap1_1 lp1_1.length cp1_1, iv p1_2, iv p1_3] 69), (some b3476, blk [slv g3464 y3462.1.length c3465, slv g3467 y3462.2.1.length c3468] 25), (g3464, blk cl3466 30), (g3467, blk cl3469 32), (g3846, blk cl3848 34), (some b3482, blk [iv y3480.1, iv y3480.2.1] 51), (some b3855, blk [slv g3491 y3489.1.length c3492, slv g3851 u3850.length c3852] 105), (g3491, blk cl3493 49), (g3851, blk cl3853 49), (g6340, blk cl6342 51)] ∧ (Row 2 g6340 (u6339.length) c6341 cl6342 (flat eGn u6339)) ∧ F8j5 p1_0 lp1_1 p1_2 p1_3 N (F8l3 p1_0 lp1_1 p1_2 p1_3 N y3462 y3480 y3489 u3850 m3) y3462 y3480 v6085 u6339 v6344 = some r) ?_ ?_
          ·
           refine ifE hF (fun h3936 hF => ?_) (fun h3936 hF => ?_)
           ·
            refine bindE hF (fun y6532 hy6533 hF => ?_)
            refine wp_drawn2 hI [0, 1, 2, 3, 4, 5, 6, 7, 8] (by decide) rfl (by kernel_rfl) (by kernel_rfl) ?_
            intro hsub
            refine al_light 0 (.agg #[slv g3464 y3462.1.length c3465, slv g3467 y3462.2.1.length c3468]) hsub rfl (by kernel_rfl) (fun w hI => s_loadK hI 1 2 [slv g3464 y3462.1.length c3465, slv g3467 y3462.2.1.length c3468] Try.isAgg25 Try.sizeOf25 rfl rfl rfl rfl ⟨rfl, Below.refl _ _⟩) ?_
            refine alp 1 (slv g3846 y3462.2.2.length c3847) hsub rfl (by kernel_rfl) (fun _ => (by kernel_rfl)) ?_
            refine alp 2 (iv v6085) hsub rfl (by kernel_rfl) (fun _ => (by kernel_rfl)) ?_
            refine al_light 3 (.pointer (some ⟨b3855, 0, none⟩)) hsub rfl (by kernel_rfl) (fun w hI => s_idxArr 0 Try.underlying105 Try.sizeOf63 rfl rfl h3936 (by decide) 0 rfl ⟨rfl, Below.refl _ _⟩) ?_
            refine al_light 4 (slv g3491 y3489.1.length c3492) hsub rfl (by kernel_rfl) (fun w hI => s_load1 hI 6 (slv g3491 y3489.1.length c3492) Try.isAgg63 rfl rfl rfl ⟨rfl, Below.refl _ _⟩) ?_
            refine any_heavy [5] (by kernel_rfl) rfl (each1 ?_)
            intro w hI
            refine ol_c rfl (s_call 35 [.agg #[slv g3464 y3462.1.length c3465, slv g3467 y3462.2.1.length c3468], slv g3846 y3462.2.2.length c3847, slv g3491 y3489.1.length c3492] (by kernel_rfl) (L35 _ (g3464.map fun b => ⟨b, 0, none⟩) c3465 y3462.1 (g3467.map fun b => ⟨b, 0, none⟩) c3468 y3462.2.1 (g3846.map fun b => ⟨b, 0, none⟩) c3847 y3462.2.2 (g3491.map fun b => ⟨b, 0, none⟩) c3492 y3489.1 (hI.rowCells 2 rfl r3473) (len_le rfl r3473.big) (len_le rfl r3473.cap) (hI.rowCells 3 rfl r3474) (len_le rfl r3474.big) (len_le rfl r3474.cap) (hI.rowCells 4 rfl r3849) (len_le rfl r3849.big) (len_le rfl r3849.cap) (hI.rowCells 7 rfl r3494) (len_le rfl r3494.big) (len_le rfl r3494.cap) N _ hy6533) ?_)
            rintro v w ⟨g6538, c6539, cl6540, rfl, hN, r6541⟩
            have hI := hI.join hN; clear hN
            refine ⟨_, hI, subk (fun _ h => h.pickL [1, 2, 3, 4, 5, 6, 7, 8, 9] (by decide) rfl) ?_⟩
            intro hsub
            refine alp 6 (.tuple #[slv g6538 y6532.1.length c6539, iv y6532.2]) hsub rfl (by kernel_rfl) (fun _ => (by kernel_rfl)) ?_
            refine alp 7 (slv g6538 y6532.1.length c6539) hsub rfl (by kernel_rfl) (fun _ => (by kernel_rfl)) ?_
            refine alp 8 (iv y6532.2) hsub rfl (by kernel_rfl) (fun _ => (by kernel_rfl)) ?_
            refine alp 9 (slv g6538 y6532.1.length c6539) hsub rfl (by kernel_rfl) (fun _ => (by kernel_rfl)) ?_
            refine alp 10 (iv y6532.2) hsub rfl (by kernel_rfl) (fun _ => (by kernel_rfl)) ?_
            refine any_end (by kernel_rfl) (fun w hI => ?_)
            exact .inl ⟨rfl, ⟨g6538, c6539, cl6540, y6532.1, y6532.2, ⟨rfl, rfl, rfl, rfl, rfl, rfl, rfl, rfl, trivial⟩, hI.pickL [1, 2, 3, 4, 5, 6, 7, 8, 9, 0] (by decide) rfl, (r6541.to rfl rfl), hF⟩⟩
           ·
            refine ifE hF (fun h3937 hF => ?_) (fun h3937 hF => ?_)
            ·
             refine bindE hF (fun y6542 hy6543 hF => ?_)
             refine wp_drawn2 hI [0, 1, 2, 3, 4, 5, 6, 7, 8] (by decide) rfl (by kernel_rfl) (by kernel_rfl) ?_
             intro hsub
             refine al_light 0 (.agg #[slv g3464 y3462.1.length c3465, slv g3467 y3462.2.1.length c3468]) hsub rfl (by kernel_rfl) (fun w hI => s_loadK hI 1 2 [slv g3464 y3462.1.length c3465, slv g3467 y3462.2.1.length c3468] Try.isAgg25 Try.sizeOf25 rfl rfl rfl rfl ⟨rfl, Below.refl _ _⟩) ?_
             refine alp 1 (slv g3846 y3462.2.2.length c3847) hsub rfl (by kernel_rfl) (fun _ => (by kernel_rfl)) ?_
             refine alp 2 (iv v6085) hsub rfl (by kernel_rfl) (fun _ => (by kernel_rfl)) ?_
             refine al_light 3 (.pointer (some ⟨b3855, 1, none⟩)) hsub rfl (by kernel_rfl) (fun w hI => s_idxArr 1 Try.underlying105 Try.sizeOf63 rfl rfl h3937 (by decide) 1 rfl ⟨rfl, Below.refl _ _⟩) ?_
             refine al_light 4 (slv g3851 u3850.length c3852) hsub rfl (by kernel_rfl) (fun w hI => s_load1 hI 6 (slv g3851 u3850.length c3852) Try.isAgg63 rfl rfl rfl ⟨rfl, Below.refl _ _⟩) ?_
             refine any_heavy [5] (by kernel_rfl) rfl (each1 ?_)
             intro w hI
             refine ol_c rfl (s_call 35 [.agg #[slv g3464 y3462.1.length c3465, slv g3467 y3462.2.1.length c3468], slv g3846 y3462.2.2.length c3847, slv g3851 u3850.length c3852] (by kernel_rfl) (L35 _ (g3464.map fun b => ⟨b, 0, none⟩) c3465 y3462.1 (g3467.map fun b => ⟨b, 0, none⟩) c3468 y3462.2.1 (g3846.map fun b => ⟨b, 0, none⟩) c3847 y3462.2.2 (g3851.map fun b => ⟨b, 0, none⟩) c3852 u3850 (hI.rowCells 2 rfl r3473) (len_le rfl r3473.big) (len_le rfl r3473.cap) (hI.rowCells 3 rfl r3474) (len_le rfl r3474.big) (len_le rfl r3474.cap) (hI.rowCells 4 rfl r3849) (len_le rfl r3849.big) (len_le rfl r3849.cap) (hI.rowCells 8 rfl r3854) (len_le rfl r3854.big) (len_le rfl r3854.cap) N _ hy6543) ?_)
             rintro v w ⟨g6548, c6549, cl6550, rfl, hN, r6551⟩
             have hI := hI.join hN; clear hN
             refine ⟨_, hI, subk (fun _ h => h.pickL [1, 2, 3, 4, 5, 6, 7, 8, 9] (by decide) rfl) ?_⟩
             intro hsub
             refine alp 6 (.tuple #[slv g6548 y6542.1.length c6549, iv y6542.2]) hsub rfl (by kernel_rfl) (fun _ => (by kernel_rfl)) ?_
             refine alp 7 (slv g6548 y6542.1.length c6549) hsub rfl (by kernel_rfl) (fun _ => (by kernel_rfl)) ?_
             refine alp 8 (iv y6542.2) hsub rfl (by kernel_rfl) (fun _ => (by kernel_rfl)) ?_
             refine alp 9 (slv g6548 y6542.1.length c6549) hsub rfl (by kernel_rfl) (fun _ => (by kernel_rfl)) ?_
             refine alp 10 (iv y6542.2) hsub rfl (by kernel_rfl) (fun _ => (by kernel_rfl)) ?_
             refine any_end (by kernel_rfl) (fun w hI => ?_)
             exact .inl ⟨rfl, ⟨g6548, c6549, cl6550, y6542.1, y6542.2, ⟨rfl, rfl, rfl, rfl, rfl, rfl, rfl, rfl, trivial⟩, hI.pickL [1, 2, 3, 4, 5, 6, 7, 8, 9, 0] (by decide) rfl, (r6551.to rfl rfl), hF⟩⟩
            ·
             cases hF
          ·intro ρ w hJ
           obtain ⟨g6340, c6341, cl6342, u6339, v6344, hag, hI, r6343, hF⟩ := hJ
           obtain ⟨ρ, rfl⟩ := hag.form; clear hag
           unfold F8j5 at hF
           refine wp_seq (wp_seq (rgn (by kernel_rfl) (pu (iv v6344) (by kernel_rfl) (ifE hF (fun h3793 hF => ?_) (fun h3793 hF => ?_)))))
           ·
            refine seq_c (s_neq rfl rfl (fun h => absurd (a := v6344 = 0) h3793 h) (fun _ => ?_))
            refine seq_nil (wp_condF rfl (wp_skip (wp_seq (rgn (by kernel_rfl) (pu (slv g6340 u6339.length c6341) (by kernel_rfl) (bindE hF (fun x6345 hx6346 hF => ?_)))))))
            obtain ⟨b6347, rfl, he6348⟩ := r6343.at_ eGn_len (by decide) hx6346
            refine seq_c (s_indexR 0 Try.underlying72 Try.sizeOf51 rfl rfl rfl (lt_n hx6346 rfl) ?_)
            refine seq_c (s_loadRK hI 9 [iv x6345.num, iv x6345.den] Try.isAgg51 Try.sizeOf51 rfl rfl rfl he6348 ?_)
            refine seq_c (s_allocI hI [iv 0, iv 0] Try.zeroValue51 rfl ?_)
            intro b6349 w hI
            refine seq_c (s_store hI 0 2 [iv x6345.num, iv x6345.den] Try.sizeOf51 rfl rfl rfl rfl rfl (Nat.le_of_ble_eq_true rfl) ?_)
            intro w hI
            refine seq_nil (wp_cutO (fun ρ w => ∃ (v6434 : Int) (v6435 : Int), Agree ρ [(4, .pointer (some ⟨b3443, 0, none⟩)), (8, .pointer (some ⟨b3476, 0, none⟩)), (9, slv g3846 y3462.2.2.length c3847), (10, .pointer (some ⟨b3482, 0, none⟩)), (21, .pointer (some ⟨b3855, 0, none⟩)), (22, iv v6085), (25, .pointer (some ⟨b6349, 0, none⟩))] ∧ Inv [] w0 w [(some b3443, blk [iv p1_0, .slice Ap1_1 lp1_1.length cp1_1, iv p1_2, iv p1_3] 69), (some b3476, blk [slv g3464 y3462.1.length c3465, slv g3467 y3462.2.1.length c3468] 25), (g3464, blk cl3466 30), (g3467, blk cl3469 32), (g3846, blk cl3848 34), (some b3482, blk [iv y3480.1, iv y3480.2.1] 51), (some b3855, blk [slv g3491 y3489.1.length c3492, slv g3851 u3850.length c3852] 105), (g3491, blk cl3493 49), (g3851, blk cl3853 49), (some b6349, blk [iv v6434, iv v6435] 51)] ∧ F8j6 p1_0 lp1_1 p1_2 p1_3 N (F8l3 p1_0 lp1_1 p1_2 p1_3 N y3462 y3480 y3489 u3850 m3) y3462 y3480 v6085 v6434 v6435 = some r) ?_ ?_)
            ·
             refine wp_seq (rgn (by kernel_rfl) (pu (iv 1) (by kernel_rfl) (seq_nil (wp_block ?_))))
             refine wp_loop (fun m ρ w => ∃ (v6503 : Int) (v6504 : Int) (v6505 : Int) (mm : Nat), Agree ρ [(4, .pointer (some ⟨b3443, 0, none⟩)), (8, .pointer (some ⟨b3476, 0, none⟩)), (9, slv g3846 y3462.2.2.length c3847), (10, .pointer (some ⟨b3482, 0, none⟩)), (21, .pointer (some ⟨b3855, 0, none⟩)), (22, iv v6085), (23, slv (some b6347) u6339.length c6341), (25, .pointer (some ⟨b6349, 0, none⟩)), (26, iv v6505)] ∧ Inv [] w0 w [(some b3443, blk [iv p1_0, .slice Ap1_1 lp1_1.length cp1_1, iv p1_2, iv p1_3] 69), (some b3476, blk [slv g3464 y3462.1.length c3465, slv g3467 y3462.2.1.length c3468] 25), (g3464, blk cl3466 30), (g3467, blk cl3469 32), (g3846, blk cl3848 34), (some b3482, blk [iv y3480.1, iv y3480.2.1] 51), (some b3855, blk [slv g3491 y3489.1.length c3492, slv g3851 u3850.length c3852] 105), (g3491, blk cl3493 49), (g3851, blk cl3853 49), (some b6347, blk cl6342 51), (some b6349, blk [iv v6503, iv v6504] 51)] ∧ F8l9 p1_0 lp1_1 p1_2 p1_3 N (F8l3 p1_0 lp1_1 p1_2 p1_3 N y3462 y3480 y3489 u3850 m3) y3462 y3480 v6085 u6339 mm v6503 v6504 v6505 = some r ∧ mm = m) (m := N) ⟨x6345.num, x6345.den, 1, N, ⟨rfl, rfl, rfl, rfl, rfl, rfl, rfl, rfl, rfl, trivial⟩, hI.pickL [1, 2, 3, 4, 5, 6, 7, 8, 9, 10, 0] (by decide) rfl, hF, rfl⟩ ?_
             rintro m ρ w ⟨v6503, v6504, v6505, mm, hag, hI, hF, hm⟩
             subst hm; obtain ⟨ρ, rfl⟩ := hag.form; clear hag
             obtain _ | m9 := mm
             ·cases (show (none : Option Bool) = some r from hF)
             replace hF : F8b9 p1_0 lp1_1 p1_2 p1_3 N (F8l3 p1_0 lp1_1 p1_2 p1_3 N y3462 y3480 y3489 u3850 m3) y3462 y3480 v6085 u6339 (F8l9 p1_0 lp1_1 p1_2 p1_3 N (F8l3 p1_0 lp1_1 p1_2 p1_3 N y3462 y3480 y3489 u3850 m3) y3462 y3480 v6085 u6339 m9) v6503 v6504 v6505 = some r := hF; unfold F8b9 at hF
             refine wp_seq (wp_seq (rgn (by kernel_rfl) (pu (iv v6505) (by kernel_rfl) (pu (slv (some b6347) u6339.length c6341) (by kernel_rfl) (pu (iv ((u6339.length : Nat) : Int)) (by kernel_rfl) (ifE hF (fun h3914 hF => ?_) (fun h3914 hF => ?_)))))))
             ·
              refine seq_c (s_lss rfl rfl (fun _ => ?_) (fun h => absurd (a := v6505 < (u6339.length : Int)) h3914 h))
              refine seq_nil (wp_condT rfl (wp_skip (wp_cutO (fun ρ w => ∃ (v6518 : Int) (v6519 : Int), Agree ρ [(4, .pointer (some ⟨b3443, 0, none⟩)), (8, .pointer (some ⟨b3476, 0, none⟩)), (9, slv g3846 y3462.2.2.length c3847), (10, .pointer (some ⟨b3482, 0, none⟩)), (21, .pointer (some ⟨b3855, 0, none⟩)), (22, iv v6085), (23, slv (some b6347) u6339.length c6341), (25, .pointer (some ⟨b6349, 0, none⟩)), (26, iv v6505)] ∧ Inv [] w0 w [(some b3443, blk [iv p1_0, .slice Ap1_1 lp1_1.length cp1_1, iv p1_2, iv p1_3] 69), (some b3476, blk [slv g3464 y3462.1.length c3465, slv g3467 y3462.2.1.length c3468] 25), (g3464, blk cl3466 30), (g3467, blk cl3469 32), (g3846, blk cl3848 34), (some b3482, blk [iv y3480.1, iv y3480.2.1] 51), (some b3855, blk [slv g3491 y3489.1.length c3492, slv g3851 u3850.length c3852] 105), (g3491, blk cl3493 49), (g3851, blk cl3853 49), (some b6347, blk cl6342 51), (some b6349, blk [iv v6518, iv v6519] 51)] ∧ F8j10 (F8l9 p1_0 lp1_1 p1_2 p1_3 N (F8l3 p1_0 lp1_1 p1_2 p1_3 N y3462 y3480 y3489 u3850 m3) y3462 y3480 v6085 u6339 m9) v6505 v6518 v6519 = some r) ?_ ?_)))
              ·
               refine wp_block ?_
               refine wp_seq (gdE hF (fun h3925 hF => ?_))
               refine bindE hF (fun x6526 hx6527 hF => ?_)
               refine bindE hF (fun y6529 hy6530 hF => ?_)
               refine wp_drawn2 hI [0, 1, 2, 3, 4, 5, 6, 7, 8, 9, 10] (by decide) rfl (by kernel_rfl) (by kernel_rfl) ?_
               intro hsub
               refine alp 0 (slv (some b6347) u6339.length c6341) hsub rfl (by kernel_rfl) (fun _ => (by kernel_rfl)) ?_
               refine alp 1 (iv v6505) hsub rfl (by kernel_rfl) (fun _ => (by kernel_rfl)) ?_
               have he6531 := r6343.atS eGn_len (by decide) hx6527
               refine al_light 2 (.pointer (some ⟨b6347, (v6505).toNat * 2, none⟩)) hsub rfl (by kernel_rfl) (fun w hI => s_indexR (v6505).toNat Try.underlying72 Try.sizeOf51 rfl rfl (Int.toNat_of_nonneg h3925).symm (lt_n hx6527 rfl) ⟨rfl, Below.refl _ _⟩) ?_
               refine al_light 3 (.agg #[iv x6526.num, iv x6526.den]) hsub rfl (by kernel_rfl) (fun w hI => s_loadRK hI 9 [iv x6526.num, iv x6526.den] Try.isAgg51 Try.sizeOf51 rfl rfl rfl he6531 ⟨rfl, Below.refl _ _⟩) ?_
               refine al_light 4 (.agg #[iv v6503, iv v6504]) hsub rfl (by kernel_rfl) (fun w hI => s_loadK hI 10 2 [iv v6503, iv v6504] Try.isAgg51 Try.sizeOf51 rfl rfl rfl rfl ⟨rfl, Below.refl _ _⟩) ?_
               refine al_light 5 (.tuple #[iv y6529.1, iv y6529.2]) hsub rfl (by kernel_rfl) (fun w hI => s_call 33 [.agg #[iv x6526.num, iv x6526.den], .agg #[iv v6503, iv v6504]] (by kernel_rfl) (L33 _ x6526 (⟨v6503, v6504⟩ : Gn) _ hy6530) (fun v' w' h => h)) ?_
               refine alp 6 (.tuple #[iv y6529.1, iv y6529.2]) hsub rfl (by kernel_rfl) (fun _ => (by kernel_rfl)) ?_
               refine alp 7 (iv y6529.1) hsub rfl (by kernel_rfl) (fun _ => (by kernel_rfl)) ?_
               refine alp 8 (iv y6529.2) hsub rfl (by kernel_rfl) (fun _ => (by kernel_rfl)) ?_
               refine alp 9 (iv y6529.1) hsub rfl (by kernel_rfl) (fun _ => (by kernel_rfl)) ?_
               refine alp 10 (iv y6529.2) hsub rfl (by kernel_rfl) (fun _ => (by kernel_rfl)) ?_
               refine any_end (by kernel_rfl) (fun w hI => ?_)
               refine wp_seq (wp_seq (rgn (by kernel_rfl) (pu (iv y6529.2) (by kernel_rfl) (ifE hF (fun h3929 hF => ?_) (fun h3929 hF => ?_)))))
               ·
                refine seq_c (s_neq rfl rfl (fun h => absurd (a := y6529.2 = 0) h3929 h) (fun _ => ?_))
                refine seq_nil (wp_condF rfl (wp_skip (wp_seq (rgn (by kernel_rfl) (pu (iv y6529.1) (by kernel_rfl) (ifE hF (fun h3931 hF => ?_) (fun h3931 hF => ?_)))))))
                ·
                 refine seq_c (s_lss rfl rfl (fun _ => ?_) (fun h => absurd (a := y6529.1 < 0) h3931 h))
                 refine seq_nil (wp_condT rfl (rgn (by kernel_rfl) (pu (slv (some b6347) u6339.length c6341) (by kernel_rfl) (pu (iv v6505) (by kernel_rfl) (seq_c (s_indexR (v6505).toNat Try.underlying72 Try.sizeOf51 rfl rfl (Int.toNat_of_nonneg h3925).symm (lt_n hx6527 rfl) ?_))))))
                 refine seq_c (s_loadRK hI 9 [iv x6526.num, iv x6526.den] Try.isAgg51 Try.sizeOf51 rfl rfl rfl he6531 ?_)
                 refine seq_c (s_store hI 10 2 [iv x6526.num, iv x6526.den] Try.sizeOf51 rfl rfl rfl rfl rfl (Nat.le_of_ble_eq_true rfl) ?_)
                 intro w hI
                 refine seq_nil ?_
                 exact .inl ⟨rfl, ⟨x6526.num, x6526.den, ⟨rfl, rfl, rfl, rfl, rfl, rfl, rfl, rfl, rfl, trivial⟩, hI.pickL [0, 1, 2, 3, 4, 5, 6, 7, 8, 9, 10] (by decide) rfl, hF⟩⟩
                ·
                 refine seq_c (s_lss rfl rfl (fun h => absurd (a := y6529.1 < 0) h h3931) (fun _ => ?_))
                 refine seq_nil (wp_condF rfl (wp_skip ?_))
                 exact .inl ⟨rfl, ⟨v6503, v6504, ⟨rfl, rfl, rfl, rfl, rfl, rfl, rfl, rfl, rfl, trivial⟩, hI.pickL [0, 1, 2, 3, 4, 5, 6, 7, 8, 9, 10] (by decide) rfl, hF⟩⟩
               ·
                refine seq_c (s_neq rfl rfl (fun _ => ?_) (fun h => absurd (a := y6529.2 = 0) h h3929))
                refine seq_nil (wp_condT rfl (wp_seq (rgn (by kernel_rfl) (pu (.bool false) (by kernel_rfl) (seq_nil (wp_ret ?_))))))
                replace hF := Option.some.inj hF; subst hF
                exact ⟨.bool false, Ret.r1 rfl rfl, ⟨rfl, hI.below⟩⟩
              ·intro ρ w hJ
               obtain ⟨v6518, v6519, hag, hI, hF⟩ := hJ
               obtain ⟨ρ, rfl⟩ := hag.form; clear hag
               unfold F8j10 at hF
               refine rgn (by kernel_rfl) (pu (iv v6505) (by kernel_rfl) (ckE hF (fun h3923 hF => ?_)))
               refine seq_c (s_add rfl rfl h3923 ?_)
               refine pu (iv (v6505 + 1)) (by kernel_rfl) (seq_nil ?_)
               exact ⟨rfl, m9, Nat.lt_succ_self _, ⟨v6518, v6519, v6505 + 1, m9, ⟨rfl, rfl, rfl, rfl, rfl, rfl, rfl, rfl, rfl, trivial⟩, hI.pickL [0, 1, 2, 3, 4, 5, 6, 7, 8, 9, 10] (by decide) rfl, hF, rfl⟩⟩
             ·
              refine seq_c (s_lss rfl rfl (fun h => absurd (a := v6505 < (u6339.length : Int)) h h3914) (fun _ => ?_))
              refine seq_nil (wp_condF rfl (wp_exit ?_))
              exact .inl ⟨rfl, ⟨v6503, v6504, ⟨rfl, rfl, rfl, rfl, rfl, rfl, rfl, trivial⟩, hI.pickL [0, 1, 2, 3, 4, 5, 6, 7, 8, 10] (by decide) rfl, hF⟩⟩
            ·intro ρ w hJ
             obtain ⟨v6434, v6435, hag, hI, hF⟩ := hJ
             obtain ⟨ρ, rfl⟩ := hag.form; clear hag
             unfold F8j6 at hF
             refine wp_seq (rgn (by kernel_rfl) (seq_c (s_loadK hI 9 2 [iv v6434, iv v6435] Try.isAgg51 Try.sizeOf51 rfl rfl rfl rfl ?_)))
             refine seq_c (s_loadK hI 5 2 [iv y3480.1, iv y3480.2.1] Try.isAgg51 Try.sizeOf51 rfl rfl rfl rfl ?_)
             refine bindE hF (fun y6438 hy6439 hF => ?_)
             refine seq_c (s_callv hI 33 [.agg #[iv v6434, iv v6435], .agg #[iv y3480.1, iv y3480.2.1]] (.tuple #[iv y6438.1, iv y6438.2]) (by kernel_rfl) (L33 _ (⟨v6434, v6435⟩ : Gn) (⟨y3480.1, y3480.2.1⟩ : Gn) _ hy6439) ?_)
             intro w hI
             refine pu (.tuple #[iv y6438.1, iv y6438.2]) (by kernel_rfl) (pu (iv y6438.1) (by kernel_rfl) (pu (iv y6438.2) (by kernel_rfl) (pu (iv y6438.1) (by kernel_rfl) (pu (iv y6438.2) (by kernel_rfl) (seq_nil (wp_seq (wp_cutO (fun ρ w => Agree ρ [(4, .pointer (some ⟨b3443, 0, none⟩)), (8, .pointer (some ⟨b3476, 0, none⟩)), (9, slv g3846 y3462.2.2.length c3847), (10, .pointer (some ⟨b3482, 0, none⟩)), (21, .pointer (some ⟨b3855, 0, none⟩)), (22, iv v6085), (25, .pointer (some ⟨b6349, 0, none⟩)), (183, .bool false)] ∧ Inv [] w0 w [(some b3443, blk [iv p1_0, .slice Ap1_1 lp1_1.length cp1_1, iv p1_2, iv p1_3] 69), (some b3476, blk [slv g3464 y3462.1.length c3465, slv g3467 y3462.2.1.length c3468] 25), (g3464, blk cl3466 30), (g3467, blk cl3469 32), (g3846, blk cl3848 34), (some b3482, blk [iv y3480.1, iv y3480.2.1] 51), (some b3855, blk [slv g3491 y3489.1.length c3492, slv g3851 u3850.length c3852] 105), (g3491, blk cl3493 49), (g3851, blk cl3853 49), (some b6349, blk [iv v6434, iv v6435] 51)] ∧ F8j7 p1_0 lp1_1 p1_2 p1_3 N (F8l3 p1_0 lp1_1 p1_2 p1_3 N y3462 y3480 y3489 u3850 m3) y3462 v6085 v6434 v6435 = some r) ?_ ?_)))))))
             ·
              refine rgn (by kernel_rfl) (pu (iv y6438.2) (by kernel_rfl) (ifE hF (fun h3870 hF => ?_) (fun h3870 hF => ?_)))
              ·
               refine seq_c (s_neq rfl rfl (fun h => absurd (a := y6438.2 = 0) h3870 h) (fun _ => ?_))
               refine pu (.bool false) (by kernel_rfl) (puo (iv y6438.1) ⟨(by kernel_rfl), (by kernel_rfl)⟩ (ifE hF (fun h3871 hF => ?_) (fun h3871 hF => ?_)))
               ·
                refine seq_on (by kernel_rfl) (s_gtr rfl rfl (fun _ => ?_) (fun h => absurd (a := 0 < y6438.1) h3871 h))
                refine pu (.bool true) (by kernel_rfl) (pu (.bool true) (by kernel_rfl) (of_ (by kernel_rfl) (of_ (by kernel_rfl) (of_ (by kernel_rfl) (seq_offN (by kernel_rfl) ?_)))))
                refine seq_offN (by kernel_rfl) ?_
                refine of_ (by kernel_rfl) (pu (.bool true) (by kernel_rfl) (seq_nil (.inr ?_)))
                refine wp_condT rfl (wp_seq (rgn (by kernel_rfl) (pu (.bool false) (by kernel_rfl) (seq_nil (wp_ret ?_)))))
                replace hF := Option.some.inj hF; subst hF
                exact ⟨.bool false, Ret.r1 rfl rfl, ⟨rfl, hI.below⟩⟩
               ·
                refine seq_on (by kernel_rfl) (s_gtr rfl rfl (fun h => absurd (a := 0 < y6438.1) h h3871) (fun _ => ?_))
                refine pu (.bool false) (by kernel_rfl) (pu (.bool false) (by kernel_rfl) (puo (iv v6085) ⟨(by kernel_rfl), (by kernel_rfl)⟩ (ifE hF (fun h3872 hF => ?_) (fun h3872 hF => ?_))))
                ·
                 refine seq_on (by kernel_rfl) (s_eql rfl rfl (fun _ => ?_) (fun h => absurd (a := v6085 = 0) h3872 h))
                 refine puo (.bool true) ⟨(by kernel_rfl), (by kernel_rfl)⟩ (puo (iv y6438.1) ⟨(by kernel_rfl), (by kernel_rfl)⟩ (ifE hF (fun h3873 hF => ?_) (fun h3873 hF => ?_)))
                 ·
                  refine seq_on (by kernel_rfl) (s_neq rfl rfl (fun h => absurd (a := y6438.1 = 0) h3873 h) (fun _ => ?_))
                  refine puo (.bool false) ⟨(by kernel_rfl), (by kernel_rfl)⟩ (pu (.bool false) (by kernel_rfl) (seq_nil ?_))
                  exact .inl ⟨rfl, ⟨⟨rfl, rfl, rfl, rfl, rfl, rfl, rfl, rfl, trivial⟩, hI.pickL [0, 1, 2, 3, 4, 5, 6, 7, 8, 9] (by decide) rfl, hF⟩⟩
                 ·
                  refine seq_on (by kernel_rfl) (s_neq rfl rfl (fun _ => ?_) (fun h => absurd (a := y6438.1 = 0) h h3873))
                  refine puo (.bool true) ⟨(by kernel_rfl), (by kernel_rfl)⟩ (pu (.bool true) (by kernel_rfl) (seq_nil (.inr ?_)))
                  refine wp_condT rfl (wp_seq (rgn (by kernel_rfl) (pu (.bool false) (by kernel_rfl) (seq_nil (wp_ret ?_)))))
                  replace hF := Option.some.inj hF; subst hF
                  exact ⟨.bool false, Ret.r1 rfl rfl, ⟨rfl, hI.below⟩⟩
                ·
                 refine seq_on (by kernel_rfl) (s_eql rfl rfl (fun h => absurd (a := v6085 = 0) h h3872) (fun _ => ?_))
                 refine puo (.bool false) ⟨(by kernel_rfl), (by kernel_rfl)⟩ (of_ (by kernel_rfl) (of_ (by kernel_rfl) (puo (.bool false) ⟨(by kernel_rfl), (by kernel_rfl)⟩ (pu (.bool false) (by kernel_rfl) (seq_nil ?_)))))
                 exact .inl ⟨rfl, ⟨⟨rfl, rfl, rfl, rfl, rfl, rfl, rfl, rfl, trivial⟩, hI.pickL [0, 1, 2, 3, 4, 5, 6, 7, 8, 9] (by decide) rfl, hF⟩⟩
              ·
               refine seq_c (s_neq rfl rfl (fun _ => ?_) (fun h => absurd (a := y6438.2 = 0) h h3870))
               refine pu (.bool true) (by kernel_rfl) (of_ (by kernel_rfl) (of_ (by kernel_rfl) (pu (.bool true) (by kernel_rfl) (pu (.bool true) (by kernel_rfl) (of_ (by kernel_rfl) (of_ (by kernel_rfl) (of_ (by kernel_rfl) (seq_offN (by kernel_rfl) ?_))))))))
               refine seq_offN (by kernel_rfl) ?_
               refine of_ (by kernel_rfl) (pu (.bool true) (by kernel_rfl) (seq_nil (.inr ?_)))
               refine wp_condT rfl (wp_seq (rgn (by kernel_rfl) (pu (.bool false) (by kernel_rfl) (seq_nil (wp_ret ?_)))))
               replace hF := Option.some.inj hF; subst hF
               exact ⟨.bool false, Ret.r1 rfl rfl, ⟨rfl, hI.below⟩⟩
             ·intro ρ w hJ
              obtain ⟨hag, hI, hF⟩ := hJ
              obtain ⟨ρ, rfl⟩ := hag.form; clear hag
              unfold F8j7 at hF
              refine wp_condF rfl (wp_skip (wp_seq (rgn (by kernel_rfl) (pu (.pointer (some ⟨b3443, 2, none⟩)) (by kernel_rfl) (seq_c (s_loadK hI 0 2 [iv p1_2, iv p1_3] Try.isAgg51 Try.sizeOf51 rfl rfl rfl rfl ?_))))))
              refine seq_c (s_loadK hI 9 2 [iv v6434, iv v6435] Try.isAgg51 Try.sizeOf51 rfl rfl rfl rfl ?_)
              refine bindE hF (fun y6442 hy6443 hF => ?_)
              refine seq_c (s_callv hI 33 [.agg #[iv p1_2, iv p1_3], .agg #[iv v6434, iv v6435]] (.tuple #[iv y6442.1, iv y6442.2]) (by kernel_rfl) (L33 _ (⟨p1_2, p1_3⟩ : Gn) (⟨v6434, v6435⟩ : Gn) _ hy6443) ?_)
              intro w hI
              refine pu (.tuple #[iv y6442.1, iv y6442.2]) (by kernel_rfl) (pu (iv y6442.1) (by kernel_rfl) (pu (iv y6442.2) (by kernel_rfl) (pu (iv y6442.1) (by kernel_rfl) (pu (iv y6442.2) (by kernel_rfl) (seq_nil (wp_cutO (fun ρ w => Agree ρ [(4, .pointer (some ⟨b3443, 0, none⟩)), (8, .pointer (some ⟨b3476, 0, none⟩)), (9, slv g3846 y3462.2.2.length c3847), (10, .pointer (some ⟨b3482, 0, none⟩)), (21, .pointer (some ⟨b3855, 0, none⟩)), (22, iv v6085), (206, .bool false)] ∧ Inv [] w0 w [(some b3443, blk [iv p1_0, .slice Ap1_1 lp1_1.length cp1_1, iv p1_2, iv p1_3] 69), (some b3476, blk [slv g3464 y3462.1.length c3465, slv g3467 y3462.2.1.length c3468] 25), (g3464, blk cl3466 30), (g3467, blk cl3469 32), (g3846, blk cl3848 34), (some b3482, blk [iv y3480.1, iv y3480.2.1] 51), (some b3855, blk [slv g3491 y3489.1.length c3492, slv g3851 u3850.length c3852] 105), (g3491, blk cl3493 49), (g3851, blk cl3853 49)] ∧ F8j8 (F8l3 p1_0 lp1_1 p1_2 p1_3 N y3462 y3480 y3489 u3850 m3) v6085 = some r) ?_ ?_))))))
              ·
               refine rgn (by kernel_rfl) (pu (iv y6442.2) (by kernel_rfl) (ifE hF (fun h3867 hF => ?_) (fun h3867 hF => ?_)))
               ·
                refine seq_c (s_eql rfl rfl (fun _ => ?_) (fun h => absurd (a := y6442.2 = 0) h3867 h))
                refine pu (.bool true) (by kernel_rfl) (puo (iv y6442.1) ⟨(by kernel_rfl), (by kernel_rfl)⟩ (ifE hF (fun h3868 hF => ?_) (fun h3868 hF => ?_)))
                ·
                 refine seq_on (by kernel_rfl) (s_lss rfl rfl (fun _ => ?_) (fun h => absurd (a := y6442.1 < 0) h3868 h))
                 refine pu (.bool true) (by kernel_rfl) (pu (.bool true) (by kernel_rfl) (seq_on (by kernel_rfl) (s_loadK hI 1 2 [slv g3464 y3462.1.length c3465, slv g3467 y3462.2.1.length c3468] Try.isAgg25 Try.sizeOf25 rfl rfl rfl rfl ?_)))
                 refine puo (slv g3846 y3462.2.2.length c3847) ⟨(by kernel_rfl), (by kernel_rfl)⟩ (puo (.pointer (some ⟨b3443, 0, none⟩)) ⟨(by kernel_rfl), (by kernel_rfl)⟩ (seq_on (by kernel_rfl) (s_loadK hI 0 2 [iv p1_0, .slice Ap1_1 lp1_1.length cp1_1] Try.isAgg67 Try.sizeOf67 rfl rfl rfl rfl ?_)))
                 refine puo (.pointer (some ⟨b3443, 2, none⟩)) ⟨(by kernel_rfl), (by kernel_rfl)⟩ (seq_on (by kernel_rfl) (s_loadK hI 0 2 [iv p1_2, iv p1_3] Try.isAgg51 Try.sizeOf51 rfl rfl rfl rfl ?_))
                 refine bindE hF (fun y6446 hy6447 hF => ?_)
                 refine seq_on (by kernel_rfl) (s_callv hI 47 [.agg #[slv g3464 y3462.1.length c3465, slv g3467 y3462.2.1.length c3468], slv g3846 y3462.2.2.length c3847, .agg #[iv p1_0, .slice Ap1_1 lp1_1.length cp1_1], .agg #[iv p1_2, iv p1_3]] (iv y6446) (by kernel_rfl) (L47 _ (g3464.map fun b => ⟨b, 0, none⟩) c3465 y3462.1 (g3467.map fun b => ⟨b, 0, none⟩) c3468 y3462.2.1 (g3846.map fun b => ⟨b, 0, none⟩) c3847 y3462.2.2 p1_0 Ap1_1 cp1_1 lp1_1 (⟨p1_2, p1_3⟩ : Gn) (hI.rowCells 2 rfl r3473) (len_le rfl r3473.big) (len_le rfl r3473.cap) (hI.rowCells 3 rfl r3474) (len_le rfl r3474.big) (len_le rfl r3474.cap) (hI.rowCells 4 rfl r3849) (len_le rfl r3849.big) (len_le rfl r3849.cap) (hCp1_1.inv0 hI) hMp1_1 hKp1_1 N _ hy6447) ?_)
                 intro w hI
                 refine ifE hF (fun h3869 hF => ?_) (fun h3869 hF => ?_)
                 ·
                  refine seq_on (by kernel_rfl) (s_eql rfl rfl (fun _ => ?_) (fun h => absurd (a := y6446 = 0) h3869 h))
                  refine pu (.bool true) (by kernel_rfl) (seq_nil (.inr ?_))
                  refine wp_condT rfl (wp_seq (rgn (by kernel_rfl) (pu (.bool false) (by kernel_rfl) (seq_nil (wp_ret ?_)))))
                  replace hF := Option.some.inj hF; subst hF
                  exact ⟨.bool false, Ret.r1 rfl rfl, ⟨rfl, hI.below⟩⟩
                 ·
                  refine seq_on (by kernel_rfl) (s_eql rfl rfl (fun h => absurd (a := y6446 = 0) h h3869) (fun _ => ?_))
                  refine pu (.bool false) (by kernel_rfl) (seq_nil ?_)
                  exact .inl ⟨rfl, ⟨⟨rfl, rfl, rfl, rfl, rfl, rfl, rfl, trivial⟩, hI.pickL [0, 1, 2, 3, 4, 5, 6, 7, 8] (by decide) rfl, hF⟩⟩
                ·
                 refine seq_on (by kernel_rfl) (s_lss rfl rfl (fun h => absurd (a := y6442.1 < 0) h h3868) (fun _ => ?_))
                 refine pu (.bool false) (by kernel_rfl) (pu (.bool false) (by kernel_rfl) (of_ (by kernel_rfl) (of_ (by kernel_rfl) (of_ (by kernel_rfl) (of_ (by kernel_rfl) (of_ (by kernel_rfl) (of_ (by kernel_rfl) (of_ (by kernel_rfl) (of_ (by kernel_rfl) ?_)))))))))
                 refine pu (.bool false) (by kernel_rfl) (seq_nil ?_)
                 exact .inl ⟨rfl, ⟨⟨rfl, rfl, rfl, rfl, rfl, rfl, rfl, trivial⟩, hI.pickL [0, 1, 2, 3, 4, 5, 6, 7, 8] (by decide) rfl, hF⟩⟩
               ·
                refine seq_c (s_eql rfl rfl (fun h => absurd (a := y6442.2 = 0) h h3867) (fun _ => ?_))
                refine pu (.bool false) (by kernel_rfl) (of_ (by kernel_rfl) (of_ (by kernel_rfl) (pu (.bool false) (by kernel_rfl) (pu (.bool false) (by kernel_rfl) (of_ (by kernel_rfl) (of_ (by kernel_rfl) (of_ (by kernel_rfl) (of_ (by kernel_rfl) (of_ (by kernel_rfl) ?_)))))))))
                refine of_ (by kernel_rfl) (of_ (by kernel_rfl) (of_ (by kernel_rfl) (pu (.bool false) (by kernel_rfl) (seq_nil ?_))))
                exact .inl ⟨rfl, ⟨⟨rfl, rfl, rfl, rfl, rfl, rfl, rfl, trivial⟩, hI.pickL [0, 1, 2, 3, 4, 5, 6, 7, 8] (by decide) rfl, hF⟩⟩
              ·intro ρ w hJ
               obtain ⟨hag, hI, hF⟩ := hJ
               obtain ⟨ρ, rfl⟩ := hag.form; clear hag
               unfold F8j8 at hF
               refine wp_condF rfl (wp_skip ?_)
               exact .inl ⟨rfl, ⟨⟨rfl, rfl, rfl, rfl, rfl, rfl, trivial⟩, hI.pickL [0, 1, 2, 3, 4, 5, 6, 7, 8] (by decide) rfl, hF⟩⟩
           ·
            refine seq_c (s_neq rfl rfl (fun _ => ?_) (fun h => absurd (a := v6344 = 0) h h3793))
            refine seq_nil (wp_condT rfl (wp_seq (wp_seq (rgn (by kernel_rfl) (pu (iv v6085) (by kernel_rfl) (ifE hF (fun h3935 hF => ?_) (fun h3935 hF => ?_)))))))
            ·
             refine seq_c (s_eql rfl rfl (fun _ => ?_) (fun h => absurd (a := v6085 = 0) h3935 h))
             refine seq_nil (wp_condT rfl (wp_seq (rgn (by kernel_rfl) (pu (.bool false) (by kernel_rfl) (seq_nil (wp_ret ?_))))))
             replace hF := Option.some.inj hF; subst hF
             exact ⟨.bool false, Ret.r1 rfl rfl, ⟨rfl, hI.below⟩⟩
            ·
             refine seq_c (s_eql rfl rfl (fun h => absurd (a := v6085 = 0) h h3935) (fun _ => ?_))
             refine seq_nil (wp_condF rfl (wp_skip (wp_exit ?_)))
             exact .inl ⟨rfl, ⟨⟨rfl, rfl, rfl, rfl, rfl, rfl, trivial⟩, hI.pickL [0, 1, 2, 3, 4, 5, 6, 7, 8] (by decide) rfl, hF⟩⟩
         ·intro ρ w hJ
          obtain ⟨hag, hI, hF⟩ := hJ
          obtain ⟨ρ, rfl⟩ := hag.form; clear hag
          unfold F8j4 at hF
          refine rgn (by kernel_rfl) (pu (iv v6085) (by kernel_rfl) (ckE hF (fun h3783 hF => ?_)))
          refine seq_c (s_add rfl rfl h3783 ?_)
          refine pu (iv (v6085 + 1)) (by kernel_rfl) (seq_nil ?_)
          exact ⟨rfl, m3, Nat.lt_succ_self _, ⟨v6085 + 1, m3, ⟨rfl, rfl, rfl, rfl, rfl, rfl, trivial⟩, hI.pickL [0, 1, 2, 3, 4, 5, 6, 7, 8] (by decide) rfl, hF, rfl⟩⟩
        ·
         refine seq_c (s_lss rfl rfl (fun h => absurd (a := v6085 < 2) h h3628) (fun _ => ?_))
         refine seq_nil (wp_condF rfl (wp_exit ?_))
         refine wp_seq (rgn (by kernel_rfl) (pu (.bool true) (by kernel_rfl) (seq_nil (wp_ret ?_))))
         replace hF := Option.some.inj hF; subst hF
         exact ⟨.bool true, Ret.r1 rfl rfl, ⟨rfl, hI.below⟩⟩
      ·
       refine seq_c (s_neq rfl rfl (fun _ => ?_) (fun h => absurd (a := y3516 = 0) h h2037))
       refine seq_nil (wp_condT rfl (wp_seq (rgn (by kernel_rfl) (pu (.bool false) (by kernel_rfl) (seq_nil (wp_ret ?_))))))
       replace hF := Option.some.inj hF; subst hF
       exact ⟨.bool false, Ret.r1 rfl rfl, ⟨rfl, hI.below⟩⟩
     ·
      refine seq_c (s_neq rfl rfl (fun _ => ?_) (fun h => absurd (a := y3480.2.2 = 0) h h2033))
      refine seq_nil (wp_condT rfl (wp_seq (rgn (by kernel_rfl) (pu (iv y3480.2.2) (by kernel_rfl) (ifE hF (fun h4035 hF => ?_) (fun h4035 hF => ?_))))))
      ·
       refine seq_c (s_eql rfl rfl (fun _ => ?_) (fun h => absurd (a := y3480.2.2 = 47) h4035 h))
       refine pu (.bool true) (by kernel_rfl) (seq_nil (wp_ret ?_))
       replace hF := Option.some.inj hF; subst hF
       exact ⟨.bool true, Ret.r1 rfl rfl, ⟨rfl, hI.below⟩⟩
      ·
       refine seq_c (s_eql rfl rfl (fun h => absurd (a := y3480.2.2 = 47) h h4035) (fun _ => ?_))
       refine pu (.bool false) (by kernel_rfl) (seq_nil (wp_ret ?_))
       replace hF := Option.some.inj hF; subst hF
       exact ⟨.bool false, Ret.r1 rfl rfl, ⟨rfl, hI.below⟩⟩
    ·
     refine seq_on (by kernel_rfl) (s_neq rfl rfl (fun _ => ?_) (fun h => absurd (a := y3480.2.2 = y3502.2.2) h h2027))
     refine pu (.bool true) (by kernel_rfl) (seq_nil (wp_condT rfl (wp_seq (rgn (by kernel_rfl) (pu (.bool false) (by kernel_rfl) (seq_nil (wp_ret ?_)))))))
     replace hF := Option.some.inj hF; subst hF
     exact ⟨.bool false, Ret.r1 rfl rfl, ⟨rfl, hI.below⟩⟩
   ·
    refine seq_on (by kernel_rfl) (s_neq rfl rfl (fun _ => ?_) (fun h => absurd (a := y3480.2.2 = y3489.2) h h2026))
    refine pu (.bool true) (by kernel_rfl) (pu (.bool true) (by kernel_rfl) (of_ (by kernel_rfl) (of_ (by kernel_rfl) (of_ (by kernel_rfl) (pu (.bool true) (by kernel_rfl) (seq_nil (wp_condT rfl (wp_seq (rgn (by kernel_rfl) ?_)))))))))
    refine pu (.bool false) (by kernel_rfl) (seq_nil (wp_ret ?_))
    replace hF := Option.some.inj hF; subst hF
    exact ⟨.bool false, Ret.r1 rfl rfl, ⟨rfl, hI.below⟩⟩
  ·
   have hF := hG; clear hG
   refine ifE hF (fun h => absurd h (by decide)) (fun _ hF => ?_)
   refine rgn (by kernel_rfl) (pu (.bool false) (by kernel_rfl) (pu (.bool true) (by kernel_rfl) (pu (.bool true) (by kernel_rfl) (of_ (by kernel_rfl) (of_ (by kernel_rfl) (of_ (by kernel_rfl) (pu (.bool true) (by kernel_rfl) (pu (.bool true) (by kernel_rfl) (of_ (by kernel_rfl) ?_)))))))))
   refine of_ (by kernel_rfl) (of_ (by kernel_rfl) (pu (.bool true) (by kernel_rfl) (seq_nil (wp_condT rfl (wp_seq (rgn (by kernel_rfl) (pu (.bool false) (by kernel_rfl) (seq_nil (wp_ret ?_)))))))))
   replace hF := Option.some.inj hF; subst hF
   exact ⟨.bool false, Ret.r1 rfl rfl, ⟨rfl, hI.below⟩⟩


end Go.K
