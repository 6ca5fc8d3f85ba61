/- That the functions do what the pure definitions say: walks, as tools/lift.py writes them. No condition. -/
import Derived.Test.YtkmnjiejlgoglaaPWa
namespace Go.K
open Go.Proofs Go.RowKit
set_option linter.unusedVariables false
set_option maxRecDepth 100000
attribute [local irreducible] Seq Step CallV AnyE opX
theorem L86 (w0 : World) (Ap0_0 : Option Addr) (cp0_0 : Nat) (lp0_0 : List Ch) (Ap0_1 : Option Addr) (cp0_1 : Nat) (lp0_1 : List Ce) (bp0_2 : Nat) (esp0_2 : List En) (ckp0_2 : Nat) (Mp0_2 : Int → Option Int) (Ap0_3 : Option Addr) (cp0_3 : Nat) (lp0_3 : List Cl) (hCp0_0 : Cells w0 Ap0_0 (flat eCh lp0_0)) (hMp0_0 : lp0_0.length ≤ 9223372036854775807) (hKp0_0 : lp0_0.length ≤ cp0_0) (hCp0_1 : Cells w0 Ap0_1 (flat eCe lp0_1)) (hMp0_1 : lp0_1.length ≤ 9223372036854775807) (hKp0_1 : lp0_1.length ≤ cp0_1) (hbp0_2 : w0.heap[bp0_2]? = some (mobj esp0_2 ckp0_2)) (hop0_2 : MOk esp0_2 ckp0_2) (hMp0_2 : ∀ j, mget esp0_2 j = (Mp0_2 j).map (Value.int .i64)) (hCp0_3 : Cells w0 Ap0_3 (flat eCl lp0_3)) (hMp0_3 : lp0_3.length ≤ 9223372036854775807) (hKp0_3 : lp0_3.length ≤ cp0_3) (N : Nat) (r : (List Dr × Int × Int × List Int × Bool)) (hF : F86 N lp0_0 lp0_1 Mp0_2 lp0_3 = some r) : Does Try.prog 86 [.agg #[.slice Ap0_0 lp0_0.length cp0_0, .slice Ap0_1 lp0_1.length cp0_1, .map (some bp0_2), .slice Ap0_3 lp0_3.length cp0_3]] w0 fun v w => ∃ (z0 : Option Nat) (z1 : Nat) (z2 : List Value) (z3 : Option Nat) (z4 : Nat) (z5 : List Value), v = .tuple #[.agg #[slv z0 r.1.length z1, .int .i64 r.2.1, .int .i64 r.2.2.1, slv z3 r.2.2.2.1.length z4], .bool r.2.2.2.2] ∧ Inv [] w0 w [(z0, blk z2 49), (z3, blk z5 3)] ∧ Row 2 z0 r.1.length z1 z2 (flat eDr r.1) ∧ Row 1 z3 r.2.2.2.1.length z4 z5 (flat eInt r.2.2.2.1) := by
 refine calls_of (n := 30) Try.func86 rfl Try.ntmps86 rfl ?_
 have hI := Inv.start w0
 unfold F86 at hF
 refine wp_seq (rgn (by kernel_rfl) (seq_c (s_boxI hI [.slice Ap0_0 lp0_0.length cp0_0, .slice Ap0_1 lp0_1.length cp0_1, .map (some bp0_2), .slice Ap0_3 lp0_3.length cp0_3] rfl ?_)))
 intro b200 w hI
 refine seq_c (s_allocI hI [.slice none 0 0, iv 0, iv 0, .slice none 0 0] Try.zeroValue144 rfl ?_)
 intro b201 w hI
 refine pu (.bool false) (by kernel_rfl) (seq_nil (wp_seq (rgn (by kernel_rfl) (seq_c (s_loadK hI 1 4 [.slice Ap0_0 lp0_0.length cp0_0, .slice Ap0_1 lp0_1.length cp0_1, .map (some bp0_2), .slice Ap0_3 lp0_3.length cp0_3] Try.isAgg120 Try.sizeOf120 rfl rfl rfl rfl ?_)))))
 refine pu (.agg #[iv (-1), iv 1]) (by kernel_rfl) (bindE hF (fun y213 hy214 hF => ?_))
 refine seq_c (s_call 96 [.agg #[.slice Ap0_0 lp0_0.length cp0_0, .slice Ap0_1 lp0_1.length cp0_1, .map (some bp0_2), .slice Ap0_3 lp0_3.length cp0_3], .agg #[iv (-1), iv 1]] (by kernel_rfl) (L96 _ Ap0_0 cp0_0 lp0_0 Ap0_1 cp0_1 lp0_1 bp0_2 esp0_2 ckp0_2 Mp0_2 Ap0_3 cp0_3 lp0_3 (⟨-1, 1⟩ : Gn) (hCp0_0.inv0 hI) hMp0_0 hKp0_0 (hCp0_1.inv0 hI) hMp0_1 hKp0_1 (hI.at0 (hbp0_2)) hop0_2 hMp0_2 (hCp0_3.inv0 hI) hMp0_3 hKp0_3 N _ hy214) ?_)
 rintro v w ⟨g215, c216, cl217, g218, c219, cl220, rfl, hN, r221, r222⟩
 have hI := hI.join hN; clear hN
 refine seq_c (s_allocI hI [.slice none 0 0, .slice none 0 0, .bool false] Try.zeroValue164 rfl ?_)
 intro b223 w hI
 refine seq_c (s_store hI 0 3 [slv g215 y213.1.length c216, slv g218 y213.2.1.length c219, .bool y213.2.2] Try.sizeOf164 rfl rfl rfl rfl rfl (Nat.le_of_ble_eq_true rfl) ?_)
 intro w hI
 refine seq_nil (wp_seq (wp_seq (rgn (by kernel_rfl) (pu (.pointer (some ⟨b223, 2, none⟩)) (by kernel_rfl) (seq_c (s_load1 hI 0 (.bool y213.2.2) Try.isAgg4 rfl rfl rfl ?_))))))
 refine pu (.bool (!y213.2.2)) (by kernel_rfl) (seq_nil (ifE hF (fun h16 hF => ?_) (fun h16 hF => ?_)))
 ·
  refine wp_cond (t := !y213.2.2) rfl (fun _ => ?_) (fun h => absurd (a := (!y213.2.2) = true) h16 (by rw [h]; decide))
  refine wp_seq (rgn (by kernel_rfl) (pu (.agg #[.slice none 0 0, iv 0, iv 0, .slice none 0 0]) (by kernel_rfl) (seq_c (s_store hI 3 4 [.slice none 0 0, iv 0, iv 0, .slice none 0 0] Try.sizeOf144 rfl rfl rfl rfl rfl (Nat.le_of_ble_eq_true rfl) ?_))))
  intro w hI
  refine pu (.bool false) (by kernel_rfl) (seq_nil (wp_ret ?_))
  have hI := hI.nilRow 49
  have hI := hI.nilRow 3
  replace hF := Option.some.inj hF; subst hF
  exact ⟨.tuple #[.agg #[.slice none 0 0, iv 0, iv 0, .slice none 0 0], .bool false], Ret.ct rfl rfl (run_loadK hI 5 4 [.slice none 0 0, iv 0, iv 0, .slice none 0 0] Try.isAgg144 Try.sizeOf144 rfl rfl rfl) rfl, ⟨none, 0, [], none, 0, [], rfl, hI.pickL [1, 0] (by decide) rfl, Row.nil_ 2, Row.nil_ 1⟩⟩
 ·
  refine wp_cond (t := !y213.2.2) rfl (fun h => absurd (a := (!y213.2.2) = true) h h16) (fun _ => ?_)
  refine wp_skip (wp_seq (rgn (by kernel_rfl) (seq_c (s_allocI hI [.slice none 0 0, iv 0, iv 0, .slice none 0 0] Try.zeroValue144 rfl ?_))))
  intro b224 w hI
  refine seq_nil (wp_seq (wp_block ?_))
  have hI := hI.nilRow 49
  refine wp_loop (fun m ρ w => ∃ (g368 : Option Nat) (c369 : Nat) (cl370 : List Value) (g373 : Option Nat) (c374 : Nat) (cl375 : List Value) (g379 : Option Nat) (c380 : Nat) (cl381 : List Value) (next_367 : List Dr) (next_372 : List Int) (next_377 : Bool) (best_378 : List Dr) (best_383 : Int) (best_384 : Int) (mm : Nat), Agree ρ [(1, .pointer (some ⟨b200, 0, none⟩)), (2, .pointer (some ⟨b201, 0, none⟩)), (4, .pointer (some ⟨b223, 0, none⟩)), (5, .pointer (some ⟨b224, 0, none⟩))] ∧ Inv [] w0 w [(some b200, blk [.slice Ap0_0 lp0_0.length cp0_0, .slice Ap0_1 lp0_1.length cp0_1, .map (some bp0_2), .slice Ap0_3 lp0_3.length cp0_3] 120), (some b201, blk [.slice none 0 0, iv 0, iv 0, .slice none 0 0] 144), (some b223, blk [slv g368 next_367.length c369, slv g373 next_372.length c374, .bool next_377] 164), (g368, blk cl370 49), (g373, blk cl375 3), (some b224, blk [slv g379 best_378.length c380, iv best_383, iv best_384, .slice none 0 0] 144), (g379, blk cl381 49)] ∧ (Row 2 g368 (next_367.length) c369 cl370 (flat eDr next_367)) ∧ (Row 1 g373 (next_372.length) c374 cl375 (flat eInt next_372)) ∧ (Row 2 g379 (best_378.length) c380 cl381 (flat eDr best_378)) ∧ F86l1 lp0_0 lp0_1 Mp0_2 lp0_3 N mm next_367 next_372 next_377 best_378 best_383 best_384 = some r ∧ mm = m) (m := N) ⟨g215, c216, cl217, g218, c219, cl220, none, 0, [], y213.1, y213.2.1, y213.2.2, [], 0, 0, N, ⟨rfl, rfl, rfl, rfl, trivial⟩, hI.pickL [6, 5, 2, 3, 4, 1, 0] (by decide) rfl, (r221.to rfl rfl), (r222.to rfl rfl), (Row.nil_ 2), hF, rfl⟩ ?_
  rintro m ρ w ⟨g368, c369, cl370, g373, c374, cl375, g379, c380, cl381, next_367, next_372, next_377, best_378, best_383, best_384, mm, hag, hI, r371, r376, r382, hF, hm⟩
  subst hm; obtain ⟨ρ, rfl⟩ := hag.form; clear hag
  obtain _ | m1 := mm
  ·cases (show (none : Option (List Dr × Int × Int × List Int × Bool)) = some r from hF)
  replace hF : F86b1 lp0_0 lp0_1 Mp0_2 lp0_3 N (F86l1 lp0_0 lp0_1 Mp0_2 lp0_3 N m1) next_367 next_372 next_377 best_378 best_383 best_384 = some r := hF; unfold F86b1 at hF
  refine wp_seq (wp_seq (rgn (by kernel_rfl) (pu (.pointer (some ⟨b223, 2, none⟩)) (by kernel_rfl) (seq_c (s_load1 hI 2 (.bool next_377) Try.isAgg4 rfl rfl rfl ?_)))))
  refine seq_nil (ifE hF (fun h28 hF => ?_) (fun h28 hF => ?_))
  ·
   refine wp_cond (t := next_377) rfl (fun _ => ?_) (fun h => absurd (a := next_377 = true) h28 (by rw [h]; decide))
   refine wp_skip (wp_block ?_)
   refine wp_seq (bindE hF (fun y387 hy388 hF => ?_))
   replace hI := hI.pickL [0, 1, 2, 3, 4, 6, 5] (by decide) rfl
   refine wp_drawn2 hI [0, 1, 2, 3, 4, 5] (by decide) rfl (by kernel_rfl) (by kernel_rfl) ?_
   intro hsub
   refine alp 0 (.pointer (some ⟨b223, 0, none⟩)) hsub rfl (by kernel_rfl) (fun _ => (by kernel_rfl)) ?_
   refine al_light 1 (slv g368 next_367.length c369) hsub rfl (by kernel_rfl) (fun w hI => s_load1 hI 2 (slv g368 next_367.length c369) Try.isAgg63 rfl rfl rfl ⟨rfl, Below.refl _ _⟩) ?_
   refine al_light 2 (.agg #[.slice Ap0_0 lp0_0.length cp0_0, .slice Ap0_1 lp0_1.length cp0_1, .map (some bp0_2), .slice Ap0_3 lp0_3.length cp0_3]) hsub rfl (by kernel_rfl) (fun w hI => s_loadK hI 0 4 [.slice Ap0_0 lp0_0.length cp0_0, .slice Ap0_1 lp0_1.length cp0_1, .map (some bp0_2), .slice Ap0_3 lp0_3.length cp0_3] Try.isAgg120 Try.sizeOf120 rfl rfl rfl rfl ⟨rfl, Below.refl _ _⟩) ?_
   refine alp 3 (.pointer (some ⟨b223, 0, none⟩)) hsub rfl (by kernel_rfl) (fun _ => (by kernel_rfl)) ?_
   refine al_light 4 (slv g368 next_367.length c369) hsub rfl (by kernel_rfl) (fun w hI => s_load1 hI 2 (slv g368 next_367.length c369) Try.isAgg63 rfl rfl rfl ⟨rfl, Below.refl _ _⟩) ?_
   refine al_light 5 (.agg #[iv y387.1, iv y387.2]) hsub rfl (by kernel_rfl) (fun w hI => s_call 97 [.agg #[.slice Ap0_0 lp0_0.length cp0_0, .slice Ap0_1 lp0_1.length cp0_1, .map (some bp0_2), .slice Ap0_3 lp0_3.length cp0_3], slv g368 next_367.length c369] (by kernel_rfl) (L97 _ Ap0_0 cp0_0 lp0_0 Ap0_1 cp0_1 lp0_1 bp0_2 esp0_2 ckp0_2 Mp0_2 Ap0_3 cp0_3 lp0_3 (g368.map fun b => ⟨b, 0, none⟩) c369 next_367 (hCp0_0.inv0 hI) hMp0_0 hKp0_0 (hCp0_1.inv0 hI) hMp0_1 hKp0_1 (hI.at0 (hbp0_2)) hop0_2 hMp0_2 (hCp0_3.inv0 hI) hMp0_3 hKp0_3 (hI.rowCells 3 rfl r371) (len_le rfl r371.big) (len_le rfl r371.cap) N _ hy388) (fun v' w' h => h)) ?_
   refine alp 6 (.agg #[slv g368 next_367.length c369, iv y387.1, iv y387.2, .slice none 0 0]) hsub rfl (by kernel_rfl) (fun _ => (by kernel_rfl)) ?_
   refine any_heavy [7] (by kernel_rfl) rfl (each1 ?_)
   intro w hI
   refine ol_c rfl (s_store hI 6 4 [slv g368 next_367.length c369, iv y387.1, iv y387.2, .slice none 0 0] Try.sizeOf144 rfl rfl rfl rfl rfl (Nat.le_of_ble_eq_true rfl) ?_)
   intro w hI
   refine ⟨_, hI, subk (fun _ h => h.pickL [0, 1, 2, 3, 4, 5] (by decide) rfl) ?_⟩
   intro hsub
   refine any_end (by kernel_rfl) (fun w hI => ?_)
   refine rgn (by kernel_rfl) (seq_c (s_loadK hI 0 4 [.slice Ap0_0 lp0_0.length cp0_0, .slice Ap0_1 lp0_1.length cp0_1, .map (some bp0_2), .slice Ap0_3 lp0_3.length cp0_3] Try.isAgg120 Try.sizeOf120 rfl rfl rfl rfl ?_))
   refine pu (.pointer (some ⟨b224, 1, none⟩)) (by kernel_rfl) (seq_c (s_loadK hI 6 2 [iv y387.1, iv y387.2] Try.isAgg136 Try.sizeOf136 rfl rfl rfl rfl ?_))
   refine bindE hF (fun y389 hy390 hF => ?_)
   refine seq_c (s_call 96 [.agg #[.slice Ap0_0 lp0_0.length cp0_0, .slice Ap0_1 lp0_1.length cp0_1, .map (some bp0_2), .slice Ap0_3 lp0_3.length cp0_3], .agg #[iv y387.1, iv y387.2]] (by kernel_rfl) (L96 _ Ap0_0 cp0_0 lp0_0 Ap0_1 cp0_1 lp0_1 bp0_2 esp0_2 ckp0_2 Mp0_2 Ap0_3 cp0_3 lp0_3 (⟨y387.1, y387.2⟩ : Gn) (hCp0_0.inv0 hI) hMp0_0 hKp0_0 (hCp0_1.inv0 hI) hMp0_1 hKp0_1 (hI.at0 (hbp0_2)) hop0_2 hMp0_2 (hCp0_3.inv0 hI) hMp0_3 hKp0_3 N _ hy390) ?_)
   rintro v w ⟨g391, c392, cl393, g394, c395, cl396, rfl, hN, r397, r398⟩
   have hI := hI.join hN; clear hN
   refine seq_c (s_store hI 4 3 [slv g391 y389.1.length c392, slv g394 y389.2.1.length c395, .bool y389.2.2] Try.sizeOf164 rfl rfl rfl rfl rfl (Nat.le_of_ble_eq_true rfl) ?_)
   intro w hI
   refine seq_nil ?_
   exact ⟨rfl, m1, Nat.lt_succ_self _, ⟨g391, c392, cl393, g394, c395, cl396, g368, c369, cl370, y389.1, y389.2.1, y389.2.2, next_367, y387.1, y387.2, m1, ⟨rfl, rfl, rfl, rfl, trivial⟩, hI.pickL [2, 3, 4, 0, 1, 8, 5] (by decide) rfl, (r397.to rfl rfl), (r398.to rfl rfl), (r371.to rfl rfl), hF, rfl⟩⟩
  ·
   refine wp_cond (t := next_377) rfl (fun h => absurd (a := next_377 = true) h h28) (fun _ => ?_)
   refine wp_exit ?_
   refine wp_seq (rgn (by kernel_rfl) (pu (.pointer (some ⟨b223, 1, none⟩)) (by kernel_rfl) (seq_c (s_load1 hI 2 (slv g373 next_372.length c374) Try.isAgg52 rfl rfl rfl ?_))))
   refine pu (.pointer (some ⟨b224, 3, none⟩)) (by kernel_rfl) (seq_c (s_store hI 5 1 [slv g373 next_372.length c374] Try.sizeOf52 rfl rfl rfl rfl rfl (Nat.le_of_ble_eq_true rfl) ?_))
   intro w hI
   refine seq_nil (wp_seq (rgn (by kernel_rfl) (seq_c (s_loadK hI 5 4 [slv g379 best_378.length c380, iv best_383, iv best_384, slv g373 next_372.length c374] Try.isAgg144 Try.sizeOf144 rfl rfl rfl rfl ?_))))
   refine seq_c (s_store hI 1 4 [slv g379 best_378.length c380, iv best_383, iv best_384, slv g373 next_372.length c374] Try.sizeOf144 rfl rfl rfl rfl rfl (Nat.le_of_ble_eq_true rfl) ?_)
   intro w hI
   refine pu (.bool true) (by kernel_rfl) (seq_nil (wp_ret ?_))
   replace hF := Option.some.inj hF; subst hF
   exact ⟨.tuple #[.agg #[slv g379 best_378.length c380, iv best_383, iv best_384, slv g373 next_372.length c374], .bool true], Ret.ct rfl rfl (run_loadK hI 1 4 [slv g379 best_378.length c380, iv best_383, iv best_384, slv g373 next_372.length c374] Try.isAgg144 Try.sizeOf144 rfl rfl rfl) rfl, ⟨g379, c380, cl381, g373, c374, cl375, rfl, hI.pickL [6, 4] (by decide) rfl, r382.to rfl rfl, r376.to rfl rfl⟩⟩


theorem L84 (w0 : World) (Ap0_0 : Option Addr) (cp0_0 : Nat) (lp0_0 : List Ch) (Ap0_1 : Option Addr) (cp0_1 : Nat) (lp0_1 : List Ce) (Ap1 : Option Addr) (cp1 : Nat) (lp1 : List Cl) (hCp0_0 : Cells w0 Ap0_0 (flat eCh lp0_0)) (hMp0_0 : lp0_0.length ≤ 9223372036854775807) (hKp0_0 : lp0_0.length ≤ cp0_0) (hCp0_1 : Cells w0 Ap0_1 (flat eCe lp0_1)) (hMp0_1 : lp0_1.length ≤ 9223372036854775807) (hKp0_1 : lp0_1.length ≤ cp0_1) (hCp1 : Cells w0 Ap1 (flat eCl lp1)) (hMp1 : lp1.length ≤ 9223372036854775807) (hKp1 : lp1.length ≤ cp1) (N : Nat) (r : (List Dr × Int × Int × List Int × Int)) (hF : F84 N lp0_0 lp0_1 lp1 = some r) : Does Try.prog 84 [.agg #[.slice Ap0_0 lp0_0.length cp0_0, .slice Ap0_1 lp0_1.length cp0_1], .slice Ap1 lp1.length cp1] w0 fun v w => ∃ (z0 : Option Nat) (z1 : Nat) (z2 : List Value) (z3 : Option Nat) (z4 : Nat) (z5 : List Value), v = .tuple #[.agg #[slv z0 r.1.length z1, .int .i64 r.2.1, .int .i64 r.2.2.1, slv z3 r.2.2.2.1.length z4], .int .i64 r.2.2.2.2] ∧ Inv [] w0 w [(z0, blk z2 49), (z3, blk z5 3)] ∧ Row 2 z0 r.1.length z1 z2 (flat eDr r.1) ∧ Row 1 z3 r.2.2.2.1.length z4 z5 (flat eInt r.2.2.2.1) := by
 refine calls_of (n := 29) Try.func84 rfl Try.ntmps84 rfl ?_
 have hI := Inv.start w0
 unfold F84 at hF
 refine wp_seq (rgn (by kernel_rfl) (seq_c (s_boxI hI [.slice Ap0_0 lp0_0.length cp0_0, .slice Ap0_1 lp0_1.length cp0_1] rfl ?_)))
 intro b54 w hI
 refine seq_c (s_allocI hI [.slice none 0 0, iv 0, iv 0, .slice none 0 0] Try.zeroValue144 rfl ?_)
 intro b55 w hI
 refine pu (iv 0) (by kernel_rfl) (seq_nil (wp_seq (rgn (by kernel_rfl) (seq_c (s_loadK hI 1 2 [.slice Ap0_0 lp0_0.length cp0_0, .slice Ap0_1 lp0_1.length cp0_1] Try.isAgg25 Try.sizeOf25 rfl rfl rfl rfl ?_)))))
 refine pu (.slice Ap1 lp1.length cp1) (by kernel_rfl) (bindS3E hF (fun y71 hy72 hF => ?_) (fun y73 hy74 hF => ?_) (fun y75 hy76 hF => ?_))
 ·
  refine seq_c (s_callv hI 64 [.agg #[.slice Ap0_0 lp0_0.length cp0_0, .slice Ap0_1 lp0_1.length cp0_1], .slice Ap1 lp1.length cp1] (.tuple #[.agg #[.slice none 0 0, .slice none 0 0, .map none, .slice none 0 0], iv 42]) (by kernel_rfl) (L64 _ Ap0_0 cp0_0 lp0_0 Ap0_1 cp0_1 lp0_1 Ap1 cp1 lp1 (hCp0_0.inv0 hI) hMp0_0 hKp0_0 (hCp0_1.inv0 hI) hMp0_1 hKp0_1 (hCp1.inv0 hI) hMp1 hKp1 N _ hy72) ?_)
  intro w hI
  refine pu (.tuple #[.agg #[.slice none 0 0, .slice none 0 0, .map none, .slice none 0 0], iv 42]) (by kernel_rfl) (pu (.agg #[.slice none 0 0, .slice none 0 0, .map none, .slice none 0 0]) (by kernel_rfl) (pu (iv 42) (by kernel_rfl) (seq_c (s_allocI hI [.slice none 0 0, .slice none 0 0, .map none, .slice none 0 0] Try.zeroValue120 rfl ?_))))
  intro b77 w hI
  refine seq_c (s_store hI 0 4 [.slice none 0 0, .slice none 0 0, .map none, .slice none 0 0] Try.sizeOf120 rfl rfl rfl rfl rfl (Nat.le_of_ble_eq_true rfl) ?_)
  intro w hI
  refine pu (iv 42) (by kernel_rfl) (seq_nil (wp_seq (wp_seq (rgn (by kernel_rfl) (pu (iv 42) (by kernel_rfl) (seq_c (s_neq rfl rfl (fun _ => ?_) (fun h => absurd (a := 42 = 0) h (by decide)))))))))
  refine seq_nil (wp_condT rfl (wp_seq (rgn (by kernel_rfl) (pu (.agg #[.slice none 0 0, iv 0, iv 0, .slice none 0 0]) (by kernel_rfl) (pu (iv 42) (by kernel_rfl) (seq_c (s_store hI 1 4 [.slice none 0 0, iv 0, iv 0, .slice none 0 0] Try.sizeOf144 rfl rfl rfl rfl rfl (Nat.le_of_ble_eq_true rfl) ?_)))))))
  intro w hI
  refine pu (iv 42) (by kernel_rfl) (seq_nil (wp_ret ?_))
  have hI := hI.nilRow 49
  have hI := hI.nilRow 3
  replace hF := Option.some.inj hF; subst hF
  exact ⟨.tuple #[.agg #[.slice none 0 0, iv 0, iv 0, .slice none 0 0], iv 42], Ret.ct rfl rfl (run_loadK hI 3 4 [.slice none 0 0, iv 0, iv 0, .slice none 0 0] Try.isAgg144 Try.sizeOf144 rfl rfl rfl) rfl, ⟨none, 0, [], none, 0, [], rfl, hI.pickL [1, 0] (by decide) rfl, Row.nil_ 2, Row.nil_ 1⟩⟩
 ·
  refine seq_c (s_callv hI 64 [.agg #[.slice Ap0_0 lp0_0.length cp0_0, .slice Ap0_1 lp0_1.length cp0_1], .slice Ap1 lp1.length cp1] (.tuple #[.agg #[.slice none 0 0, .slice none 0 0, .map none, .slice none 0 0], iv 44]) (by kernel_rfl) (L64 _ Ap0_0 cp0_0 lp0_0 Ap0_1 cp0_1 lp0_1 Ap1 cp1 lp1 (hCp0_0.inv0 hI) hMp0_0 hKp0_0 (hCp0_1.inv0 hI) hMp0_1 hKp0_1 (hCp1.inv0 hI) hMp1 hKp1 N _ hy74) ?_)
  intro w hI
  refine pu (.tuple #[.agg #[.slice none 0 0, .slice none 0 0, .map none, .slice none 0 0], iv 44]) (by kernel_rfl) (pu (.agg #[.slice none 0 0, .slice none 0 0, .map none, .slice none 0 0]) (by kernel_rfl) (pu (iv 44) (by kernel_rfl) (seq_c (s_allocI hI [.slice none 0 0, .slice none 0 0, .map none, .slice none 0 0] Try.zeroValue120 rfl ?_))))
  intro b78 w hI
  refine seq_c (s_store hI 0 4 [.slice none 0 0, .slice none 0 0, .map none, .slice none 0 0] Try.sizeOf120 rfl rfl rfl rfl rfl (Nat.le_of_ble_eq_true rfl) ?_)
  intro w hI
  refine pu (iv 44) (by kernel_rfl) (seq_nil (wp_seq (wp_seq (rgn (by kernel_rfl) (pu (iv 44) (by kernel_rfl) (seq_c (s_neq rfl rfl (fun _ => ?_) (fun h => absurd (a := 44 = 0) h (by decide)))))))))
  refine seq_nil (wp_condT rfl (wp_seq (rgn (by kernel_rfl) (pu (.agg #[.slice none 0 0, iv 0, iv 0, .slice none 0 0]) (by kernel_rfl) (pu (iv 44) (by kernel_rfl) (seq_c (s_store hI 1 4 [.slice none 0 0, iv 0, iv 0, .slice none 0 0] Try.sizeOf144 rfl rfl rfl rfl rfl (Nat.le_of_ble_eq_true rfl) ?_)))))))
  intro w hI
  refine pu (iv 44) (by kernel_rfl) (seq_nil (wp_ret ?_))
  have hI := hI.nilRow 49
  have hI := hI.nilRow 3
  replace hF := Option.some.inj hF; subst hF
  exact ⟨.tuple #[.agg #[.slice none 0 0, iv 0, iv 0, .slice none 0 0], iv 44], Ret.ct rfl rfl (run_loadK hI 3 4 [.slice none 0 0, iv 0, iv 0, .slice none 0 0] Try.isAgg144 Try.sizeOf144 rfl rfl rfl) rfl, ⟨none, 0, [], none, 0, [], rfl, hI.pickL [1, 0] (by decide) rfl, Row.nil_ 2, Row.nil_ 1⟩⟩
 ·
  refine seq_c (s_call 64 [.agg #[.slice Ap0_0 lp0_0.length cp0_0, .slice Ap0_1 lp0_1.length cp0_1], .slice Ap1 lp1.length cp1] (by kernel_rfl) (L64 _ Ap0_0 cp0_0 lp0_0 Ap0_1 cp0_1 lp0_1 Ap1 cp1 lp1 (hCp0_0.inv0 hI) hMp0_0 hKp0_0 (hCp0_1.inv0 hI) hMp0_1 hKp0_1 (hCp1.inv0 hI) hMp1 hKp1 N _ hy76) ?_)
  rintro v w ⟨b79, es80, ck81, rfl, hN, ho82, hM83⟩
  have hI := hI.join hN; clear hN
  refine pu (.tuple #[.agg #[.slice Ap0_0 lp0_0.length cp0_0, .slice Ap0_1 lp0_1.length cp0_1, .map (some b79), .slice Ap1 lp1.length cp1], iv 0]) (by kernel_rfl) (pu (.agg #[.slice Ap0_0 lp0_0.length cp0_0, .slice Ap0_1 lp0_1.length cp0_1, .map (some b79), .slice Ap1 lp1.length cp1]) (by kernel_rfl) (pu (iv 0) (by kernel_rfl) (seq_c (s_allocI hI [.slice none 0 0, .slice none 0 0, .map none, .slice none 0 0] Try.zeroValue120 rfl ?_))))
  intro b84 w hI
  refine seq_c (s_store hI 0 4 [.slice Ap0_0 lp0_0.length cp0_0, .slice Ap0_1 lp0_1.length cp0_1, .map (some b79), .slice Ap1 lp1.length cp1] Try.sizeOf120 rfl rfl rfl rfl rfl (Nat.le_of_ble_eq_true rfl) ?_)
  intro w hI
  refine pu (iv 0) (by kernel_rfl) (seq_nil (wp_seq (wp_seq (rgn (by kernel_rfl) (pu (iv 0) (by kernel_rfl) (seq_c (s_neq rfl rfl (fun h => absurd (a := 0 = 0) (by decide) h) (fun _ => ?_))))))))
  refine seq_nil (wp_condF rfl (wp_skip (wp_seq (rgn (by kernel_rfl) (seq_c (s_loadK hI 0 4 [.slice Ap0_0 lp0_0.length cp0_0, .slice Ap0_1 lp0_1.length cp0_1, .map (some b79), .slice Ap1 lp1.length cp1] Try.isAgg120 Try.sizeOf120 rfl rfl rfl rfl ?_))))))
  refine bindE hF (fun y96 hy97 hF => ?_)
  refine seq_c (s_call 86 [.agg #[.slice Ap0_0 lp0_0.length cp0_0, .slice Ap0_1 lp0_1.length cp0_1, .map (some b79), .slice Ap1 lp1.length cp1]] (by kernel_rfl) (L86 _ Ap0_0 cp0_0 lp0_0 Ap0_1 cp0_1 lp0_1 b79 es80 ck81 y75 Ap1 cp1 lp1 (hCp0_0.inv0 hI) hMp0_0 hKp0_0 (hCp0_1.inv0 hI) hMp0_1 hKp0_1 (hI.has 1 _ _ rfl).1 ho82 hM83 (hCp1.inv0 hI) hMp1 hKp1 N _ hy97) ?_)
  rintro v w ⟨g98, c99, cl100, g101, c102, cl103, rfl, hN, r104, r105⟩
  have hI := hI.join hN; clear hN
  refine pu (.tuple #[.agg #[slv g98 y96.1.length c99, iv y96.2.1, iv y96.2.2.1, slv g101 y96.2.2.2.1.length c102], .bool y96.2.2.2.2]) (by kernel_rfl) (pu (.agg #[slv g98 y96.1.length c99, iv y96.2.1, iv y96.2.2.1, slv g101 y96.2.2.2.1.length c102]) (by kernel_rfl) (pu (.bool y96.2.2.2.2) (by kernel_rfl) (seq_c (s_allocI hI [.slice none 0 0, iv 0, iv 0, .slice none 0 0] Try.zeroValue144 rfl ?_))))
  intro b106 w hI
  refine seq_c (s_store hI 0 4 [slv g98 y96.1.length c99, iv y96.2.1, iv y96.2.2.1, slv g101 y96.2.2.2.1.length c102] Try.sizeOf144 rfl rfl rfl rfl rfl (Nat.le_of_ble_eq_true rfl) ?_)
  intro w hI
  refine pu (.bool y96.2.2.2.2) (by kernel_rfl) (seq_nil (wp_seq (wp_seq (rgn (by kernel_rfl) (pu (.bool y96.2.2.2.2) (by kernel_rfl) (pu (.bool (!y96.2.2.2.2)) (by kernel_rfl) (seq_nil (ifE hF (fun h4 hF => ?_) (fun h4 hF => ?_)))))))))
  ·
   refine wp_cond (t := !y96.2.2.2.2) rfl (fun _ => ?_) (fun h => absurd (a := (!y96.2.2.2.2) = true) h4 (by rw [h]; decide))
   refine wp_seq (rgn (by kernel_rfl) (pu (.agg #[.slice none 0 0, iv 0, iv 0, .slice none 0 0]) (by kernel_rfl) (seq_c (s_store hI 5 4 [.slice none 0 0, iv 0, iv 0, .slice none 0 0] Try.sizeOf144 rfl rfl rfl rfl rfl (Nat.le_of_ble_eq_true rfl) ?_))))
   intro w hI
   refine pu (iv 47) (by kernel_rfl) (seq_nil (wp_ret ?_))
   have hI := hI.nilRow 49
   have hI := hI.nilRow 3
   replace hF := Option.some.inj hF; subst hF
   exact ⟨.tuple #[.agg #[.slice none 0 0, iv 0, iv 0, .slice none 0 0], iv 47], Ret.ct rfl rfl (run_loadK hI 7 4 [.slice none 0 0, iv 0, iv 0, .slice none 0 0] Try.isAgg144 Try.sizeOf144 rfl rfl rfl) rfl, ⟨none, 0, [], none, 0, [], rfl, hI.pickL [1, 0] (by decide) rfl, Row.nil_ 2, Row.nil_ 1⟩⟩
  ·
   refine wp_cond (t := !y96.2.2.2.2) rfl (fun h => absurd (a := (!y96.2.2.2.2) = true) h h4) (fun _ => ?_)
   refine wp_skip (wp_seq (rgn (by kernel_rfl) (seq_c (s_loadK hI 0 4 [slv g98 y96.1.length c99, iv y96.2.1, iv y96.2.2.1, slv g101 y96.2.2.2.1.length c102] Try.isAgg144 Try.sizeOf144 rfl rfl rfl rfl ?_))))
   refine seq_c (s_store hI 5 4 [slv g98 y96.1.length c99, iv y96.2.1, iv y96.2.2.1, slv g101 y96.2.2.2.1.length c102] Try.sizeOf144 rfl rfl rfl rfl rfl (Nat.le_of_ble_eq_true rfl) ?_)
   intro w hI
   refine pu (iv 0) (by kernel_rfl) (seq_nil (wp_ret ?_))
   replace hF := Option.some.inj hF; subst hF
   exact ⟨.tuple #[.agg #[slv g98 y96.1.length c99, iv y96.2.1, iv y96.2.2.1, slv g101 y96.2.2.2.1.length c102], iv 0], Ret.ct rfl rfl (run_loadK hI 5 4 [slv g98 y96.1.length c99, iv y96.2.1, iv y96.2.2.1, slv g101 y96.2.2.2.1.length c102] Try.isAgg144 Try.sizeOf144 rfl rfl rfl) rfl, ⟨g98, c99, cl100, g101, c102, cl103, rfl, hI.pickL [1, 2] (by decide) rfl, r104.to rfl rfl, r105.to rfl rfl⟩⟩


theorem L37 (w0 : World) (Ap0_0 : Option Addr) (cp0_0 : Nat) (lp0_0 : List Ch) (Ap0_1 : Option Addr) (cp0_1 : Nat) (lp0_1 : List Ce) (Ap1 : Option Addr) (cp1 : Nat) (lp1 : List Cl) (hCp0_0 : Cells w0 Ap0_0 (flat eCh lp0_0)) (hMp0_0 : lp0_0.length ≤ 9223372036854775807) (hKp0_0 : lp0_0.length ≤ cp0_0) (hCp0_1 : Cells w0 Ap0_1 (flat eCe lp0_1)) (hMp0_1 : lp0_1.length ≤ 9223372036854775807) (hKp0_1 : lp0_1.length ≤ cp0_1) (hCp1 : Cells w0 Ap1 (flat eCl lp1)) (hMp1 : lp1.length ≤ 9223372036854775807) (hKp1 : lp1.length ≤ cp1) (N : Nat) (r : (Int × Int × Int)) (hF : F37 N lp0_0 lp0_1 lp1 = some r) : Does Try.prog 37 [.agg #[.slice Ap0_0 lp0_0.length cp0_0, .slice Ap0_1 lp0_1.length cp0_1], .slice Ap1 lp1.length cp1] w0 fun v w => v = .tuple #[.agg #[.int .i64 r.1, .int .i64 r.2.1], .int .i64 r.2.2] ∧ Below w0.heap.size w0 w := by
 refine calls_of (n := 17) Try.func37 rfl Try.ntmps37 rfl ?_
 have hI := Inv.start w0
 unfold F37 at hF
 refine wp_seq (rgn (by kernel_rfl) (seq_c (s_boxI hI [.slice Ap0_0 lp0_0.length cp0_0, .slice Ap0_1 lp0_1.length cp0_1] rfl ?_)))
 intro b25 w hI
 refine seq_c (s_allocI hI [iv 0, iv 0] Try.zeroValue51 rfl ?_)
 intro b26 w hI
 refine pu (iv 0) (by kernel_rfl) (seq_nil (wp_seq (rgn (by kernel_rfl) (seq_c (s_loadK hI 1 2 [.slice Ap0_0 lp0_0.length cp0_0, .slice Ap0_1 lp0_1.length cp0_1] Try.isAgg25 Try.sizeOf25 rfl rfl rfl rfl ?_)))))
 refine pu (.slice Ap1 lp1.length cp1) (by kernel_rfl) (bindE hF (fun y38 hy39 hF => ?_))
 refine seq_c (s_call 84 [.agg #[.slice Ap0_0 lp0_0.length cp0_0, .slice Ap0_1 lp0_1.length cp0_1], .slice Ap1 lp1.length cp1] (by kernel_rfl) (L84 _ Ap0_0 cp0_0 lp0_0 Ap0_1 cp0_1 lp0_1 Ap1 cp1 lp1 (hCp0_0.inv0 hI) hMp0_0 hKp0_0 (hCp0_1.inv0 hI) hMp0_1 hKp0_1 (hCp1.inv0 hI) hMp1 hKp1 N _ hy39) ?_)
 rintro v w ⟨g40, c41, cl42, g43, c44, cl45, rfl, hN, r46, r47⟩
 have hI := hI.join hN; clear hN
 refine pu (.tuple #[.agg #[slv g40 y38.1.length c41, iv y38.2.1, iv y38.2.2.1, slv g43 y38.2.2.2.1.length c44], iv y38.2.2.2.2]) (by kernel_rfl) (pu (.agg #[slv g40 y38.1.length c41, iv y38.2.1, iv y38.2.2.1, slv g43 y38.2.2.2.1.length c44]) (by kernel_rfl) (pu (iv y38.2.2.2.2) (by kernel_rfl) (seq_c (s_allocI hI [.slice none 0 0, iv 0, iv 0, .slice none 0 0] Try.zeroValue144 rfl ?_))))
 intro b48 w hI
 refine seq_c (s_store hI 0 4 [slv g40 y38.1.length c41, iv y38.2.1, iv y38.2.2.1, slv g43 y38.2.2.2.1.length c44] Try.sizeOf144 rfl rfl rfl rfl rfl (Nat.le_of_ble_eq_true rfl) ?_)
 intro w hI
 refine pu (iv y38.2.2.2.2) (by kernel_rfl) (seq_nil (wp_seq (rgn (by kernel_rfl) (pu (.pointer (some ⟨b48, 1, none⟩)) (by kernel_rfl) (seq_c (s_loadK hI 0 2 [iv y38.2.1, iv y38.2.2.1] Try.isAgg136 Try.sizeOf136 rfl rfl rfl rfl ?_))))))
 refine pu (iv y38.2.2.2.2) (by kernel_rfl) (seq_c (s_store hI 3 2 [iv y38.2.1, iv y38.2.2.1] Try.sizeOf51 rfl rfl rfl rfl rfl (Nat.le_of_ble_eq_true rfl) ?_))
 intro w hI
 refine pu (iv y38.2.2.2.2) (by kernel_rfl) (seq_nil (wp_ret ?_))
 replace hF := Option.some.inj hF; subst hF
 exact ⟨.tuple #[.agg #[iv y38.2.1, iv y38.2.2.1], iv y38.2.2.2.2], Ret.ct rfl rfl (run_loadK hI 3 2 [iv y38.2.1, iv y38.2.2.1] Try.isAgg51 Try.sizeOf51 rfl rfl rfl) rfl, ⟨rfl, hI.below⟩⟩


theorem L98 (w0 : World) (bp0 : Nat) (cp0 : Nat) (clp0 : List Value) (lp0 : List Cl) (p1 : Int) (p2 : Int) (hgp0 : w0.heap[bp0]? = some (blk clp0 34)) (hrp0 : Row 4 (some bp0) lp0.length cp0 clp0 (flat eCl lp0)) (r : List Cl) (hF : F98 lp0 p1 p2 = some r) : Does Try.prog 98 [slv (some bp0) lp0.length cp0, .int .i64 p1, .int .i64 p2] w0 fun v w => ∃ (z0 : Option Nat) (z1 : Nat) (z2 : List Value), v = slv z0 r.length z1 ∧ Inv [bp0] w0 w [(z0, blk z2 34)] ∧ Row 4 z0 r.length z1 z2 (flat eCl r) := by
 refine calls_of (n := 33) Try.func98 rfl Try.ntmps98 rfl ?_
 have hI := Inv.lent w0 (some bp0) (blk clp0 34) (fun b hb => by injection hb with hb; subst hb; exact hgp0)
 unfold F98 at hF
 refine wp_seq (rgn (by kernel_rfl) (pu (.slice none 0 0) (by kernel_rfl) (seq_nil (wp_seq (rgn (by kernel_rfl) (pu (slv (some bp0) lp0.length cp0) (by kernel_rfl) (pu (iv p1) (by kernel_rfl) (pu (iv p2) (by kernel_rfl) (pu (slv (some bp0) lp0.length cp0) (by kernel_rfl) ?_)))))))))
 refine pu (iv ((lp0.length : Nat) : Int)) (by kernel_rfl) (gdE hF (fun h24 hF => ?_))
 refine gdE hF (fun h25 hF => ?_)
 refine gdE hF (fun h26 hF => ?_)
 refine seq_c (s_slice3 (l := (p1).toNat) (h := (p2).toNat) (q := lp0.length) Try.underlying26 Try.sizeOf34 rfl (congrArg (Value.int .i64) (Int.toNat_of_nonneg h24).symm) (congrArg (Value.int .i64) (Int.toNat_of_nonneg h25).symm) (congrArg (Value.int .i64) rfl) ⟨h26.1, h26.2.1, Nat.le_trans h26.2.2 (len_le rfl hrp0.cap)⟩ ?_)
 refine seq_nil (wp_seq (wp_seq (rgn (by kernel_rfl) (pu (iv p1) (by kernel_rfl) (pu (iv p2) (by kernel_rfl) (ifE hF (fun h30 hF => ?_) (fun h30 hF => ?_)))))))
 ·
  refine seq_c (s_eql rfl rfl (fun _ => ?_) (fun h => absurd (a := p1 = p2) h30 h))
  refine seq_nil (wp_condT rfl (wp_seq (rgn (by kernel_rfl) (pu (slv (some bp0) lp0.length cp0) (by kernel_rfl) (pu (slv (some bp0) lp0.length cp0) (by kernel_rfl) (seq_nil (wp_ret ?_)))))))
  replace hF := Option.some.inj hF; subst hF
  exact ⟨slv (some bp0) lp0.length cp0, Ret.r1 rfl rfl, ⟨some bp0, cp0, clp0, rfl, hI.pickL [0] (by decide) rfl, hrp0.to rfl rfl⟩⟩
 ·
  refine seq_c (s_eql rfl rfl (fun h => absurd (a := p1 = p2) h h30) (fun _ => ?_))
  refine seq_nil (wp_condF rfl (wp_skip (wp_seq (rgn (by kernel_rfl) (pu (slv (some bp0) lp0.length cp0) (by kernel_rfl) (pu (iv ((lp0.length : Nat) : Int)) (by kernel_rfl) (pu (iv (lp0.length : Int)) (by kernel_rfl) (seq_nil (wp_seq ?_)))))))))
  refine gdE hF (fun h34 hF => ?_)
  refine gdE hF (fun h35 hF => ?_)
  refine gdE hF (fun h36 hF => ?_)
  replace hI := hI.pickL [0] (by decide) rfl
  refine wp_drawn2 hI [] (by decide) rfl (by kernel_rfl) (by kernel_rfl) ?_
  intro hsub
  refine alp 0 (slv (some bp0) lp0.length cp0) hsub rfl (by kernel_rfl) (fun _ => (by kernel_rfl)) ?_
  refine alp 1 (iv p1) hsub rfl (by kernel_rfl) (fun _ => (by kernel_rfl)) ?_
  have r40 : Row 4 (some bp0) (lp0.take (p1).toNat).length cp0 clp0 (flat eCl (lp0.take (p1).toNat)) := (hrp0.cut eCl_len (by decide) (p1).toNat (len_ge rfl h34)).to rfl (take_len2 h34)
  refine al_light 2 (slv (some bp0) ((lp0.take (p1).toNat).length) cp0) hsub rfl (by kernel_rfl) (fun w hI => s_sliceHiN Try.underlying26 Try.sizeOf34 rfl (congrArg (Value.int .i64) (Int.toNat_of_nonneg h24).symm) (take_len2 h34) (Nat.le_trans h34 (len_le rfl hrp0.cap)) ⟨rfl, Below.refl _ _⟩) ?_
  refine alp 3 (slv (some bp0) lp0.length cp0) hsub rfl (by kernel_rfl) (fun _ => (by kernel_rfl)) ?_
  refine alp 4 (iv p2) hsub rfl (by kernel_rfl) (fun _ => (by kernel_rfl)) ?_
  refine al_light 5 (.slice (K.sub (some (⟨bp0, 0, none⟩ : Addr)) cp0 (p2).toNat 4) ((lp0.drop (p2).toNat).length) (cp0 - (p2).toNat)) hsub rfl (by kernel_rfl) (fun w hI => s_sliceLoN Try.underlying26 Try.sizeOf34 rfl (congrArg (Value.int .i64) (Int.toNat_of_nonneg h25).symm) (len_ge rfl h35) (drop_len2 rfl h35) hrp0.cap ⟨rfl, Below.refl _ _⟩) ?_
  refine any_heavy [6] (by kernel_rfl) rfl (each1 ?_)
  intro w hI
  refine ol_c rfl (s_appRoomN hI Try.underlying26 (z := .agg #[iv 0, iv 0, iv 0, iv 0]) (k := 4) (bytes := 32) (by kernel_rfl) 0 rfl rfl r40 (flat eCl (lp0.drop (p2).toNat)) rfl (flat_len eCl_len _) (Cells.fromRow eCl_len (hI.rowCells 0 rfl (hrp0.to rfl rfl)) h35 hrp0.cap rfl) (flat_cell eCl_cell _) (n2 := ((lp0.take (p1).toNat) ++ (lp0.drop (p2).toNat)).length) (app_len rfl rfl) (Nat.le_trans h36 (len_le rfl hrp0.cap)) ?_)
  intro cl43 w hI r44
  refine ⟨_, hI, subk (fun _ h => h.pickL [] (by decide) rfl) ?_⟩
  intro hsub
  have r44 : Row 4 (some bp0) (((lp0.take (p1).toNat) ++ (lp0.drop (p2).toNat)).length) cp0 cl43 (flat eCl ((lp0.take (p1).toNat) ++ (lp0.drop (p2).toNat))) := r44.more
  refine alp 7 (slv (some bp0) (((lp0.take (p1).toNat) ++ (lp0.drop (p2).toNat)).length) cp0) hsub rfl (by kernel_rfl) (fun _ => (by kernel_rfl)) ?_
  refine any_end (by kernel_rfl) (fun w hI => ?_)
  refine wp_seq (rgn (by kernel_rfl) (pu (slv (some bp0) (((lp0.take (p1).toNat) ++ (lp0.drop (p2).toNat)).length) cp0) (by kernel_rfl) (pu (slv (some bp0) (((lp0.take (p1).toNat) ++ (lp0.drop (p2).toNat)).length) cp0) (by kernel_rfl) (pu (iv ((((lp0.take (p1).toNat) ++ (lp0.drop (p2).toNat)).length : Nat) : Int)) (by kernel_rfl) (pu (iv (lp0.length : Int)) (by kernel_rfl) (gdE hF (fun h39 hF => ?_)))))))
  refine gdE hF (fun h40 hF => ?_)
  refine seq_c (s_slice Try.underlying26 Try.sizeOf34 rfl (.inl (congrArg some (congrArg (Value.int .i64) (Int.toNat_of_nonneg h39).symm))) (.inl (congrArg some (congrArg (Value.int .i64) rfl))) h40 (len_le rfl hrp0.cap) ?_)
  refine seq_c (s_clearTail hI 0 (n := lp0.length) Try.underlying26 Try.zeroValue34 rfl rfl rfl rfl h36 (len_le rfl hrp0.cap) r44.size ?_)
  intro cl47 w hI hl0 ht0
  have r48 := r44.same hl0 ht0
  refine seq_nil (wp_seq (rgn (by kernel_rfl) (pu (slv (some bp0) (((lp0.take (p1).toNat) ++ (lp0.drop (p2).toNat)).length) cp0) (by kernel_rfl) (pu (slv (some bp0) (((lp0.take (p1).toNat) ++ (lp0.drop (p2).toNat)).length) cp0) (by kernel_rfl) (seq_nil (wp_ret ?_))))))
  replace hF := Option.some.inj hF; subst hF
  exact ⟨slv (some bp0) (((lp0.take (p1).toNat) ++ (lp0.drop (p2).toNat)).length) cp0, Ret.r1 rfl rfl, ⟨some bp0, cp0, cl47, rfl, hI.pickL [0] (by decide) rfl, r48.to rfl rfl⟩⟩

theorem L99 (w0 : World) (Ap0 : Option Addr) (cp0 : Nat) (lp0 : List Cl) (hCp0 : Cells w0 Ap0 (flat eCl lp0)) (hMp0 : lp0.length ≤ 9223372036854775807) (hKp0 : lp0.length ≤ cp0) (r : List Cl) (hF : F99 lp0 = some r) : Does Try.prog 99 [.slice Ap0 lp0.length cp0] w0 fun v w => ∃ (z0 : Option Nat) (z1 : Nat) (z2 : List Value), v = slv z0 r.length z1 ∧ Inv [] w0 w [(z0, blk z2 34)] ∧ Row 4 z0 r.length z1 z2 (flat eCl r) := by
 refine gdE hF (fun hb hF => ?_)
 replace hF := Option.some.inj hF; subst hF
 refine calls_of (n := 8) Try.func99 rfl Try.ntmps99 rfl ?_
 have hI := Inv.start w0
 refine wp_seq (rgn (by kernel_rfl) (pu (.slice none 0 0) (by kernel_rfl) (seq_nil (wp_seq (wp_seq (rgn (by kernel_rfl) (pu (.slice Ap0 lp0.length cp0) (by kernel_rfl) (seq_c (s_eqnil Try.underlying26 rfl rfl ?_ ?_)))))))))
 · intro h1; subst h1
   obtain rfl := flat_nil_of eCl_len (by decide) hCp0.nil_of
   refine seq_nil (wp_condT rfl (wp_seq (rgn (by kernel_rfl) (pu (.slice none 0 0) (by kernel_rfl) (seq_nil (wp_ret ?_))))))
   have hI := hI.nilRow 34
   exact ⟨.slice none 0 0, Ret.r1 rfl rfl, ⟨none, 0, [], rfl, hI.pickL [0] (by decide) rfl, Row.nil_ 4⟩⟩
 · intro h2
   refine seq_nil (wp_condF rfl (wp_skip (wp_seq (rgn (by kernel_rfl) (seq_c (s_new hI [] 34 (fun b => slv (some b) 0 0) (by kernel_rfl) ?_))))))
   intro b1 w hI
   refine pu (.slice Ap0 lp0.length cp0) (by kernel_rfl) (seq_c (s_appN hI Try.underlying26 (z := .agg #[.int .i64 0, .int .i64 0, .int .i64 0, .int .i64 0]) (k := 4) (bytes := 32) (by kernel_rfl) rfl rfl 0 rfl rfl (Row.zero_ 4 b1) (flat eCl lp0) rfl (flat_len eCl_len _) (hCp0.inv0 hI) (flat_cell eCl_cell _) (by omega) (by omega) (n2 := lp0.length) (by omega) ?_))
   intro g2 c3 cl4 w hI r5
   refine pu (slv g2 lp0.length c3) (by kernel_rfl) (seq_nil (wp_ret ?_))
   exact ⟨slv g2 lp0.length c3, Ret.r1 rfl rfl, ⟨g2, c3, cl4, rfl, hI.pickL [0] (by decide) rfl, r5⟩⟩


theorem L87 (w0 : World) (Ap0_0 : Option Addr) (cp0_0 : Nat) (lp0_0 : List Ch) (Ap0_1 : Option Addr) (cp0_1 : Nat) (lp0_1 : List Ce) (bp0_2 : Nat) (esp0_2 : List En) (ckp0_2 : Nat) (Mp0_2 : Int → Option Int) (Ap0_3 : Option Addr) (cp0_3 : Nat) (lp0_3 : List Cl) (p1 : Int) (hCp0_0 : Cells w0 Ap0_0 (flat eCh lp0_0)) (hMp0_0 : lp0_0.length ≤ 9223372036854775807) (hKp0_0 : lp0_0.length ≤ cp0_0) (hCp0_1 : Cells w0 Ap0_1 (flat eCe lp0_1)) (hMp0_1 : lp0_1.length ≤ 9223372036854775807) (hKp0_1 : lp0_1.length ≤ cp0_1) (hbp0_2 : w0.heap[bp0_2]? = some (mobj esp0_2 ckp0_2)) (hop0_2 : MOk esp0_2 ckp0_2) (hMp0_2 : ∀ j, mget esp0_2 j = (Mp0_2 j).map (Value.int .i64)) (hCp0_3 : Cells w0 Ap0_3 (flat eCl lp0_3)) (hMp0_3 : lp0_3.length ≤ 9223372036854775807) (hKp0_3 : lp0_3.length ≤ cp0_3) (r : List Cl) (hF : F87 lp0_0 lp0_1 Mp0_2 lp0_3 p1 = some r) : Does Try.prog 87 [.agg #[.slice Ap0_0 lp0_0.length cp0_0, .slice Ap0_1 lp0_1.length cp0_1, .map (some bp0_2), .slice Ap0_3 lp0_3.length cp0_3], .int .i64 p1] w0 fun v w => ∃ (z0 : Option Nat) (z1 : Nat) (z2 : List Value), v = .agg #[.slice Ap0_0 lp0_0.length cp0_0, .slice Ap0_1 lp0_1.length cp0_1, .map (some bp0_2), slv z0 r.length z1] ∧ Inv [] w0 w [(z0, blk z2 34)] ∧ Row 4 z0 r.length z1 z2 (flat eCl r) := by
 refine calls_of (n := 15) Try.func87 rfl Try.ntmps87 rfl ?_
 have hI := Inv.start w0
 unfold F87 at hF
 refine wp_seq (rgn (by kernel_rfl) (seq_c (s_boxI hI [.slice Ap0_0 lp0_0.length cp0_0, .slice Ap0_1 lp0_1.length cp0_1, .map (some bp0_2), .slice Ap0_3 lp0_3.length cp0_3] rfl ?_)))
 intro b47 w hI
 refine seq_c (s_allocI hI [.slice none 0 0, .slice none 0 0, .map none, .slice none 0 0] Try.zeroValue120 rfl ?_)
 intro b48 w hI
 refine seq_nil (wp_seq (bindE hF (fun y71 hy72 hF => ?_)))
 refine ckE hF (fun h7 hF => ?_)
 refine gdE hF (fun h8 hF => ?_)
 refine bindE hF (fun y78 hy79 hF => ?_)
 replace hI := hI.pickL [1, 0] (by decide) rfl
 refine wp_drawn2 hI [0] (by decide) rfl (by kernel_rfl) (by kernel_rfl) ?_
 intro hsub
 refine alp 0 (.pointer (some ⟨b47, 0, none⟩)) hsub rfl (by kernel_rfl) (fun _ => (by kernel_rfl)) ?_
 refine al_light 1 (.agg #[.slice Ap0_0 lp0_0.length cp0_0, .slice Ap0_1 lp0_1.length cp0_1, .map (some bp0_2)]) hsub rfl (by kernel_rfl) (fun w hI => s_loadK hI 0 3 [.slice Ap0_0 lp0_0.length cp0_0, .slice Ap0_1 lp0_1.length cp0_1, .map (some bp0_2)] Try.isAgg115 Try.sizeOf115 rfl rfl rfl rfl ⟨rfl, Below.refl _ _⟩) ?_
 refine alp 2 (.pointer (some ⟨b47, 3, none⟩)) hsub rfl (by kernel_rfl) (fun _ => (by kernel_rfl)) ?_
 refine al_light 3 (.slice Ap0_3 lp0_3.length cp0_3) hsub rfl (by kernel_rfl) (fun w hI => s_load1 hI 0 (.slice Ap0_3 lp0_3.length cp0_3) Try.isAgg26 rfl rfl rfl ⟨rfl, Below.refl _ _⟩) ?_
 refine alp 5 (iv p1) hsub rfl (by kernel_rfl) (fun _ => (by kernel_rfl)) ?_
 refine alp 6 (iv p1) hsub rfl (by kernel_rfl) (fun _ => (by kernel_rfl)) ?_
 refine al_light 7 (iv (p1 + 1)) hsub rfl (by kernel_rfl) (fun w hI => s_add rfl rfl h7 ⟨rfl, Below.refl _ _⟩) ?_
 refine any_heavy [4] (by kernel_rfl) rfl (each1 ?_)
 intro w hI
 refine ol_c rfl (s_call 99 [.slice Ap0_3 lp0_3.length cp0_3] (by kernel_rfl) (L99 _ Ap0_3 cp0_3 lp0_3 (hCp0_3.inv0 hI) hMp0_3 hKp0_3 _ hy72) ?_)
 rintro v w ⟨g84, c85, cl86, rfl, hN, r87⟩
 have hI := hI.join hN; clear hN
 refine ⟨_, hI, subk (fun _ h => h.pickL [1] (by decide) rfl) ?_⟩
 intro hsub
 refine any_heavy [8] (by kernel_rfl) rfl (each1 ?_)
 intro w hI
 obtain ⟨b88, rfl⟩ := r87.some_ (len_ge rfl h8)
 refine ol_c rfl (s_call 98 [slv (some b88) y71.length c85, iv p1, iv (p1 + 1)] (by kernel_rfl) (L98 _ b88 c85 cl86 y71 p1 (p1 + 1) (hI.has 0 _ _ rfl).1 (r87.to rfl rfl) _ hy79) ?_)
 rintro v w ⟨g89, c90, cl91, rfl, hN, r92⟩
 have hI := hI.back 0 rfl hN; clear hN; have hI := hI.nils 1 _ rfl (blk [] 34)
 refine ⟨_, hI, subk (fun _ h => h.pickL [2] (by decide) rfl) ?_⟩
 intro hsub
 refine alp 9 (.agg #[.slice Ap0_0 lp0_0.length cp0_0, .slice Ap0_1 lp0_1.length cp0_1, .map (some bp0_2), slv g89 y78.length c90]) hsub rfl (by kernel_rfl) (fun _ => (by kernel_rfl)) ?_
 refine any_heavy [10] (by kernel_rfl) rfl (each1 ?_)
 intro w hI
 refine ol_c rfl (s_store hI 3 4 [.slice Ap0_0 lp0_0.length cp0_0, .slice Ap0_1 lp0_1.length cp0_1, .map (some bp0_2), slv g89 y78.length c90] Try.sizeOf120 rfl rfl rfl rfl rfl (Nat.le_of_ble_eq_true rfl) ?_)
 intro w hI
 refine ⟨_, hI, subk (fun _ h => h.pickL [2] (by decide) rfl) ?_⟩
 intro hsub
 refine any_end (by kernel_rfl) (fun w hI => ?_)
 refine wp_ret ?_
 replace hF := Option.some.inj hF; subst hF
 exact ⟨.agg #[.slice Ap0_0 lp0_0.length cp0_0, .slice Ap0_1 lp0_1.length cp0_1, .map (some bp0_2), slv g89 y78.length c90], Ret.c rfl rfl (run_loadK hI 3 4 [.slice Ap0_0 lp0_0.length cp0_0, .slice Ap0_1 lp0_1.length cp0_1, .map (some bp0_2), slv g89 y78.length c90] Try.isAgg120 Try.sizeOf120 rfl rfl rfl), ⟨g89, c90, cl91, rfl, hI.pickL [0] (by decide) rfl, r92.to rfl rfl⟩⟩


theorem L39 (w0 : World) (Ap0_0 : Option Addr) (cp0_0 : Nat) (lp0_0 : List Ch) (Ap0_1 : Option Addr) (cp0_1 : Nat) (lp0_1 : List Ce) (Ap1 : Option Addr) (cp1 : Nat) (lp1 : List Cl) (hCp0_0 : Cells w0 Ap0_0 (flat eCh lp0_0)) (hMp0_0 : lp0_0.length ≤ 9223372036854775807) (hKp0_0 : lp0_0.length ≤ cp0_0) (hCp0_1 : Cells w0 Ap0_1 (flat eCe lp0_1)) (hMp0_1 : lp0_1.length ≤ 9223372036854775807) (hKp0_1 : lp0_1.length ≤ cp0_1) (hCp1 : Cells w0 Ap1 (flat eCl lp1)) (hMp1 : lp1.length ≤ 9223372036854775807) (hKp1 : lp1.length ≤ cp1) (N : Nat) (r : (List Int × Int)) (hF : F39 N lp0_0 lp0_1 lp1 = some r) : Does Try.prog 39 [.agg #[.slice Ap0_0 lp0_0.length cp0_0, .slice Ap0_1 lp0_1.length cp0_1], .slice Ap1 lp1.length cp1] w0 fun v w => ∃ (z0 : Option Nat) (z1 : Nat) (z2 : List Value), v = .tuple #[slv z0 r.1.length z1, .int .i64 r.2] ∧ Inv [] w0 w [(z0, blk z2 3)] ∧ Row 1 z0 r.1.length z1 z2 (flat eInt r.1) := by
 refine calls_of (n := 68) Try.func39 rfl Try.ntmps39 rfl ?_
 have hI := Inv.start w0
 unfold F39 at hF
 refine wp_seq (rgn (by kernel_rfl) (seq_c (s_boxI hI [.slice Ap0_0 lp0_0.length cp0_0, .slice Ap0_1 lp0_1.length cp0_1] rfl ?_)))
 intro b694 w hI
 refine pu (.slice none 0 0) (by kernel_rfl) (pu (iv 0) (by kernel_rfl) (seq_nil (wp_seq (rgn (by kernel_rfl) (seq_c (s_loadK hI 0 2 [.slice Ap0_0 lp0_0.length cp0_0, .slice Ap0_1 lp0_1.length cp0_1] Try.isAgg25 Try.sizeOf25 rfl rfl rfl rfl ?_))))))
 refine pu (.slice Ap1 lp1.length cp1) (by kernel_rfl) (bindS3E hF (fun y710 hy711 hF => ?_) (fun y712 hy713 hF => ?_) (fun y714 hy715 hF => ?_))
 ·
  refine seq_c (s_callv hI 64 [.agg #[.slice Ap0_0 lp0_0.length cp0_0, .slice Ap0_1 lp0_1.length cp0_1], .slice Ap1 lp1.length cp1] (.tuple #[.agg #[.slice none 0 0, .slice none 0 0, .map none, .slice none 0 0], iv 42]) (by kernel_rfl) (L64 _ Ap0_0 cp0_0 lp0_0 Ap0_1 cp0_1 lp0_1 Ap1 cp1 lp1 (hCp0_0.inv0 hI) hMp0_0 hKp0_0 (hCp0_1.inv0 hI) hMp0_1 hKp0_1 (hCp1.inv0 hI) hMp1 hKp1 N _ hy711) ?_)
  intro w hI
  refine pu (.tuple #[.agg #[.slice none 0 0, .slice none 0 0, .map none, .slice none 0 0], iv 42]) (by kernel_rfl) (pu (.agg #[.slice none 0 0, .slice none 0 0, .map none, .slice none 0 0]) (by kernel_rfl) (pu (iv 42) (by kernel_rfl) (seq_c (s_allocI hI [.slice none 0 0, .slice none 0 0, .map none, .slice none 0 0] Try.zeroValue120 rfl ?_))))
  intro b716 w hI
  refine seq_c (s_store hI 0 4 [.slice none 0 0, .slice none 0 0, .map none, .slice none 0 0] Try.sizeOf120 rfl rfl rfl rfl rfl (Nat.le_of_ble_eq_true rfl) ?_)
  intro w hI
  refine pu (iv 42) (by kernel_rfl) (seq_nil (wp_seq (wp_seq (rgn (by kernel_rfl) (pu (iv 42) (by kernel_rfl) (seq_c (s_neq rfl rfl (fun _ => ?_) (fun h => absurd (a := 42 = 0) h (by decide)))))))))
  refine seq_nil (wp_condT rfl (wp_seq (rgn (by kernel_rfl) (pu (iv 42) (by kernel_rfl) (pu (.slice none 0 0) (by kernel_rfl) (pu (iv 42) (by kernel_rfl) (seq_nil (wp_ret ?_))))))))
  have hI := hI.nilRow 3
  replace hF := Option.some.inj hF; subst hF
  exact ⟨.tuple #[.slice none 0 0, iv 42], Ret.r2 rfl rfl rfl, ⟨none, 0, [], rfl, hI.pickL [0] (by decide) rfl, Row.nil_ 1⟩⟩
 ·
  refine seq_c (s_callv hI 64 [.agg #[.slice Ap0_0 lp0_0.length cp0_0, .slice Ap0_1 lp0_1.length cp0_1], .slice Ap1 lp1.length cp1] (.tuple #[.agg #[.slice none 0 0, .slice none 0 0, .map none, .slice none 0 0], iv 44]) (by kernel_rfl) (L64 _ Ap0_0 cp0_0 lp0_0 Ap0_1 cp0_1 lp0_1 Ap1 cp1 lp1 (hCp0_0.inv0 hI) hMp0_0 hKp0_0 (hCp0_1.inv0 hI) hMp0_1 hKp0_1 (hCp1.inv0 hI) hMp1 hKp1 N _ hy713) ?_)
  intro w hI
  refine pu (.tuple #[.agg #[.slice none 0 0, .slice none 0 0, .map none, .slice none 0 0], iv 44]) (by kernel_rfl) (pu (.agg #[.slice none 0 0, .slice none 0 0, .map none, .slice none 0 0]) (by kernel_rfl) (pu (iv 44) (by kernel_rfl) (seq_c (s_allocI hI [.slice none 0 0, .slice none 0 0, .map none, .slice none 0 0] Try.zeroValue120 rfl ?_))))
  intro b717 w hI
  refine seq_c (s_store hI 0 4 [.slice none 0 0, .slice none 0 0, .map none, .slice none 0 0] Try.sizeOf120 rfl rfl rfl rfl rfl (Nat.le_of_ble_eq_true rfl) ?_)
  intro w hI
  refine pu (iv 44) (by kernel_rfl) (seq_nil (wp_seq (wp_seq (rgn (by kernel_rfl) (pu (iv 44) (by kernel_rfl) (seq_c (s_neq rfl rfl (fun _ => ?_) (fun h => absurd (a := 44 = 0) h (by decide)))))))))
  refine seq_nil (wp_condT rfl (wp_seq (rgn (by kernel_rfl) (pu (iv 44) (by kernel_rfl) (pu (.slice none 0 0) (by kernel_rfl) (pu (iv 44) (by kernel_rfl) (seq_nil (wp_ret ?_))))))))
  have hI := hI.nilRow 3
  replace hF := Option.some.inj hF; subst hF
  exact ⟨.tuple #[.slice none 0 0, iv 44], Ret.r2 rfl rfl rfl, ⟨none, 0, [], rfl, hI.pickL [0] (by decide) rfl, Row.nil_ 1⟩⟩
 ·
  refine seq_c (s_call 64 [.agg #[.slice Ap0_0 lp0_0.length cp0_0, .slice Ap0_1 lp0_1.length cp0_1], .slice Ap1 lp1.length cp1] (by kernel_rfl) (L64 _ Ap0_0 cp0_0 lp0_0 Ap0_1 cp0_1 lp0_1 Ap1 cp1 lp1 (hCp0_0.inv0 hI) hMp0_0 hKp0_0 (hCp0_1.inv0 hI) hMp0_1 hKp0_1 (hCp1.inv0 hI) hMp1 hKp1 N _ hy715) ?_)
  rintro v w ⟨b718, es719, ck720, rfl, hN, ho721, hM722⟩
  have hI := hI.join hN; clear hN
  refine pu (.tuple #[.agg #[.slice Ap0_0 lp0_0.length cp0_0, .slice Ap0_1 lp0_1.length cp0_1, .map (some b718), .slice Ap1 lp1.length cp1], iv 0]) (by kernel_rfl) (pu (.agg #[.slice Ap0_0 lp0_0.length cp0_0, .slice Ap0_1 lp0_1.length cp0_1, .map (some b718), .slice Ap1 lp1.length cp1]) (by kernel_rfl) (pu (iv 0) (by kernel_rfl) (seq_c (s_allocI hI [.slice none 0 0, .slice none 0 0, .map none, .slice none 0 0] Try.zeroValue120 rfl ?_))))
  intro b723 w hI
  refine seq_c (s_store hI 0 4 [.slice Ap0_0 lp0_0.length cp0_0, .slice Ap0_1 lp0_1.length cp0_1, .map (some b718), .slice Ap1 lp1.length cp1] Try.sizeOf120 rfl rfl rfl rfl rfl (Nat.le_of_ble_eq_true rfl) ?_)
  intro w hI
  refine pu (iv 0) (by kernel_rfl) (seq_nil (wp_seq (wp_seq (rgn (by kernel_rfl) (pu (iv 0) (by kernel_rfl) (seq_c (s_neq rfl rfl (fun h => absurd (a := 0 = 0) (by decide) h) (fun _ => ?_))))))))
  refine seq_nil (wp_condF rfl (wp_skip (wp_seq (wp_seq (rgn (by kernel_rfl) (pu (.slice Ap1 lp1.length cp1) (by kernel_rfl) (pu (iv ((lp1.length : Nat) : Int)) (by kernel_rfl) (ifE hF (fun h92 hF => ?_) (fun h92 hF => ?_)))))))))
  ·
   refine seq_c (s_eql rfl rfl (fun _ => ?_) (fun h => absurd (a := (lp1.length : Int) = 1) h92 h))
   refine seq_nil (wp_condT rfl (wp_seq (rgn (by kernel_rfl) (pu (.slice Ap1 lp1.length cp1) (by kernel_rfl) (bindE hF (fun x733 hx734 hF => ?_))))))
   obtain ⟨b735, o736, hA737, hb738, he739⟩ := hCp1.at_ eCl_len (by decide) hx734
   refine seq_c (s_indexA 0 Try.underlying26 Try.sizeOf34 rfl hA737 rfl rfl (lt_n hx734 rfl) ?_)
   refine pu (.pointer (some ⟨b735, o736 + 0 * 4, none⟩)) (by kernel_rfl) (seq_c (s_loadB1 hI (iv x733.fam) Try.isAgg3 rfl hb738 (by simp) (he739 0 _ rfl) ?_))
   refine seq_c (s_new hI [iv x733.fam] 3 (fun b => slv (some b) 1 1) (by kernel_rfl) ?_)
   intro b740 w hI
   refine pu (.slice (some ⟨b740, 0, none⟩) 1 1) (by kernel_rfl) (pu (iv 0) (by kernel_rfl) (seq_nil (wp_ret ?_)))
   have r741 : Row 1 (some b740) 1 1 [iv x733.fam] (flat eInt [x733.fam]) := Row.lit eInt_len (l := [x733.fam]) rfl (Nat.le_of_ble_eq_true rfl)
   replace hF := Option.some.inj hF; subst hF
   exact ⟨.tuple #[slv (some b740) 1 1, iv 0], Ret.r2 rfl rfl rfl, ⟨some b740, 1, [iv x733.fam], rfl, hI.pickL [0] (by decide) rfl, r741.to rfl rfl⟩⟩
  ·
   refine seq_c (s_eql rfl rfl (fun h => absurd (a := (lp1.length : Int) = 1) h h92) (fun _ => ?_))
   refine seq_nil (wp_condF rfl (wp_skip (wp_seq (rgn (by kernel_rfl) (seq_c (s_loadK hI 0 4 [.slice Ap0_0 lp0_0.length cp0_0, .slice Ap0_1 lp0_1.length cp0_1, .map (some b718), .slice Ap1 lp1.length cp1] Try.isAgg120 Try.sizeOf120 rfl rfl rfl rfl ?_))))))
   refine bindE hF (fun y753 hy754 hF => ?_)
   refine seq_c (s_call 86 [.agg #[.slice Ap0_0 lp0_0.length cp0_0, .slice Ap0_1 lp0_1.length cp0_1, .map (some b718), .slice Ap1 lp1.length cp1]] (by kernel_rfl) (L86 _ Ap0_0 cp0_0 lp0_0 Ap0_1 cp0_1 lp0_1 b718 es719 ck720 y714 Ap1 cp1 lp1 (hCp0_0.inv0 hI) hMp0_0 hKp0_0 (hCp0_1.inv0 hI) hMp0_1 hKp0_1 (hI.has 1 _ _ rfl).1 ho721 hM722 (hCp1.inv0 hI) hMp1 hKp1 N _ hy754) ?_)
   rintro v w ⟨g755, c756, cl757, g758, c759, cl760, rfl, hN, r761, r762⟩
   have hI := hI.join hN; clear hN
   refine pu (.tuple #[.agg #[slv g755 y753.1.length c756, iv y753.2.1, iv y753.2.2.1, slv g758 y753.2.2.2.1.length c759], .bool y753.2.2.2.2]) (by kernel_rfl) (pu (.agg #[slv g755 y753.1.length c756, iv y753.2.1, iv y753.2.2.1, slv g758 y753.2.2.2.1.length c759]) (by kernel_rfl) (pu (.bool y753.2.2.2.2) (by kernel_rfl) (seq_c (s_allocI hI [.slice none 0 0, iv 0, iv 0, .slice none 0 0] Try.zeroValue144 rfl ?_))))
   intro b763 w hI
   refine seq_c (s_store hI 0 4 [slv g755 y753.1.length c756, iv y753.2.1, iv y753.2.2.1, slv g758 y753.2.2.2.1.length c759] Try.sizeOf144 rfl rfl rfl rfl rfl (Nat.le_of_ble_eq_true rfl) ?_)
   intro w hI
   refine pu (.bool y753.2.2.2.2) (by kernel_rfl) (seq_nil (wp_seq (rgn (by kernel_rfl) (pu (.slice none 0 0) (by kernel_rfl) (seq_nil (wp_seq (wp_seq (rgn (by kernel_rfl) (pu (.slice Ap1 lp1.length cp1) (by kernel_rfl) ?_)))))))))
   refine pu (iv ((lp1.length : Nat) : Int)) (by kernel_rfl) (pu (iv 0) (by kernel_rfl) (seq_nil (wp_block ?_)))
   have hI := hI.nilRow 3
   refine wp_loop (fun m ρ w => ∃ (g1283 : Option Nat) (c1284 : Nat) (cl1285 : List Value) (u1282 : List Int) (v1287 : Int) (mm : Nat), Agree ρ [(6, .pointer (some ⟨b723, 0, none⟩)), (8, .pointer (some ⟨b763, 0, none⟩)), (9, .bool y753.2.2.2.2), (10, slv g1283 u1282.length c1284), (37, .slice Ap1 lp1.length cp1), (38, iv (lp1.length : Int)), (39, iv v1287)] ∧ Inv [] w0 w [(some b723, blk [.slice Ap0_0 lp0_0.length cp0_0, .slice Ap0_1 lp0_1.length cp0_1, .map (some b718), .slice Ap1 lp1.length cp1] 120), (some b718, mobj es719 ck720), (some b763, blk [slv g755 y753.1.length c756, iv y753.2.1, iv y753.2.2.1, slv g758 y753.2.2.2.1.length c759] 144), (g755, blk cl757 49), (g758, blk cl760 3), (g1283, blk cl1285 3)] ∧ (Row 1 g1283 (u1282.length) c1284 cl1285 (flat eInt u1282)) ∧ F39l1 lp0_0 lp0_1 lp1 N y714 y753 mm u1282 v1287 = some r ∧ mm = m) (m := N) ⟨none, 0, [], [], 0, N, ⟨rfl, rfl, rfl, rfl, rfl, rfl, rfl, trivial⟩, hI.pickL [4, 5, 1, 2, 3, 0] (by decide) rfl, (Row.nil_ 1), hF, rfl⟩ ?_
   rintro m ρ w ⟨g1283, c1284, cl1285, u1282, v1287, mm, hag, hI, r1286, hF, hm⟩
   subst hm; obtain ⟨ρ, rfl⟩ := hag.form; clear hag
   obtain _ | m1 := mm
   ·cases (show (none : Option (List Int × Int)) = some r from hF)
   replace hF : F39b1 lp0_0 lp0_1 lp1 N y714 y753 (F39l1 lp0_0 lp0_1 lp1 N y714 y753 m1) u1282 v1287 = some r := hF; unfold F39b1 at hF
   refine wp_seq (rgn (by kernel_rfl) (ifE hF (fun h163 hF => ?_) (fun h163 hF => ?_)))
   ·
    refine seq_c (s_lss rfl rfl (fun _ => ?_) (fun h => absurd (a := v1287 < (lp1.length : Int)) h163 h))
    refine seq_nil (wp_seq (wp_condT rfl (wp_skip (wp_cutO (fun ρ w => ∃ (g1336 : Option Nat) (c1337 : Nat) (cl1338 : List Value) (u1335 : List Int), Agree ρ [(6, .pointer (some ⟨b723, 0, none⟩)), (8, .pointer (some ⟨b763, 0, none⟩)), (9, .bool y753.2.2.2.2), (10, slv g1336 u1335.length c1337), (37, .slice Ap1 lp1.length cp1), (38, iv (lp1.length : Int)), (39, iv v1287)] ∧ Inv [] w0 w [(some b723, blk [.slice Ap0_0 lp0_0.length cp0_0, .slice Ap0_1 lp0_1.length cp0_1, .map (some b718), .slice Ap1 lp1.length cp1] 120), (some b718, mobj es719 ck720), (some b763, blk [slv g755 y753.1.length c756, iv y753.2.1, iv y753.2.2.1, slv g758 y753.2.2.2.1.length c759] 144), (g755, blk cl757 49), (g758, blk cl760 3), (g1336, blk cl1338 3)] ∧ (Row 1 g1336 (u1335.length) c1337 cl1338 (flat eInt u1335)) ∧ F39j2 (F39l1 lp0_0 lp0_1 lp1 N y714 y753 m1) v1287 u1335 = some r) ?_ ?_))))
    ·
     refine wp_block ?_
     refine wp_seq (rgn (by kernel_rfl) (pu (iv v1287) (by kernel_rfl) (gdE hF (fun h171 hF => ?_))))
     refine bindE hF (fun x1340 hx1341 hF => ?_)
     obtain ⟨b1342, o1343, hA1344, hb1345, he1346⟩ := hCp1.at_ eCl_len (by decide) hx1341
     refine seq_c (s_indexA (v1287).toNat Try.underlying26 Try.sizeOf34 rfl hA1344 rfl (Int.toNat_of_nonneg h171).symm (lt_n hx1341 rfl) ?_)
     refine seq_c (s_loadBK hI [iv x1340.fam, iv x1340.hd, iv x1340.fr, iv x1340.to] Try.isAgg34 Try.sizeOf34 rfl rfl hb1345 (by simp) he1346 ?_)
     refine seq_c (s_allocI hI [iv 0, iv 0, iv 0, iv 0] Try.zeroValue34 rfl ?_)
     intro b1347 w hI
     refine pu (iv v1287) (by kernel_rfl) (seq_c (s_store hI 0 4 [iv x1340.fam, iv x1340.hd, iv x1340.fr, iv x1340.to] Try.sizeOf34 rfl rfl rfl rfl rfl (Nat.le_of_ble_eq_true rfl) ?_))
     intro w hI
     refine seq_nil (wp_seq (rgn (by kernel_rfl) (seq_c (s_loadK hI 1 4 [.slice Ap0_0 lp0_0.length cp0_0, .slice Ap0_1 lp0_1.length cp0_1, .map (some b718), .slice Ap1 lp1.length cp1] Try.isAgg120 Try.sizeOf120 rfl rfl rfl rfl ?_))))
     refine pu (iv v1287) (by kernel_rfl) (bindE hF (fun y1365 hy1366 hF => ?_))
     refine seq_c (s_call 87 [.agg #[.slice Ap0_0 lp0_0.length cp0_0, .slice Ap0_1 lp0_1.length cp0_1, .map (some b718), .slice Ap1 lp1.length cp1], iv v1287] (by kernel_rfl) (L87 _ Ap0_0 cp0_0 lp0_0 Ap0_1 cp0_1 lp0_1 b718 es719 ck720 y714 Ap1 cp1 lp1 v1287 (hCp0_0.inv0 hI) hMp0_0 hKp0_0 (hCp0_1.inv0 hI) hMp0_1 hKp0_1 (hI.has 2 _ _ rfl).1 ho721 hM722 (hCp1.inv0 hI) hMp1 hKp1 _ hy1366) ?_)
     rintro v w ⟨g1367, c1368, cl1369, rfl, hN, r1370⟩
     have hI := hI.join hN; clear hN
     refine bindE hF (fun y1371 hy1372 hF => ?_)
     refine seq_c (s_call 86 [.agg #[.slice Ap0_0 lp0_0.length cp0_0, .slice Ap0_1 lp0_1.length cp0_1, .map (some b718), slv g1367 y1365.length c1368]] (by kernel_rfl) (L86 _ Ap0_0 cp0_0 lp0_0 Ap0_1 cp0_1 lp0_1 b718 es719 ck720 y714 (g1367.map fun b => ⟨b, 0, none⟩) c1368 y1365 (hCp0_0.inv0 hI) hMp0_0 hKp0_0 (hCp0_1.inv0 hI) hMp0_1 hKp0_1 (hI.has 3 _ _ rfl).1 ho721 hM722 (hI.rowCells 0 rfl r1370) (len_le rfl r1370.big) (len_le rfl r1370.cap) N _ hy1372) ?_)
     rintro v w ⟨g1373, c1374, cl1375, g1376, c1377, cl1378, rfl, hN, r1379, r1380⟩
     have hI := hI.join hN; clear hN
     refine pu (.tuple #[.agg #[slv g1373 y1371.1.length c1374, iv y1371.2.1, iv y1371.2.2.1, slv g1376 y1371.2.2.2.1.length c1377], .bool y1371.2.2.2.2]) (by kernel_rfl) (pu (.agg #[slv g1373 y1371.1.length c1374, iv y1371.2.1, iv y1371.2.2.1, slv g1376 y1371.2.2.2.1.length c1377]) (by kernel_rfl) (pu (.bool y1371.2.2.2.2) (by kernel_rfl) (seq_c (s_allocI hI [.slice none 0 0, iv 0, iv 0, .slice none 0 0] Try.zeroValue144 rfl ?_))))
     intro b1381 w hI
     refine seq_c (s_store hI 0 4 [slv g1373 y1371.1.length c1374, iv y1371.2.1, iv y1371.2.2.1, slv g1376 y1371.2.2.2.1.length c1377] Try.sizeOf144 rfl rfl rfl rfl rfl (Nat.le_of_ble_eq_true rfl) ?_)
     intro w hI
     refine pu (.bool y1371.2.2.2.2) (by kernel_rfl) (seq_nil (wp_cutO (fun ρ w => Agree ρ [(6, .pointer (some ⟨b723, 0, none⟩)), (8, .pointer (some ⟨b763, 0, none⟩)), (9, .bool y753.2.2.2.2), (10, slv g1283 u1282.length c1284), (12, .pointer (some ⟨b1347, 0, none⟩)), (37, .slice Ap1 lp1.length cp1), (38, iv (lp1.length : Int)), (39, iv v1287), (60, .bool true)] ∧ Inv [] w0 w [(some b723, blk [.slice Ap0_0 lp0_0.length cp0_0, .slice Ap0_1 lp0_1.length cp0_1, .map (some b718), .slice Ap1 lp1.length cp1] 120), (some b718, mobj es719 ck720), (some b763, blk [slv g755 y753.1.length c756, iv y753.2.1, iv y753.2.2.1, slv g758 y753.2.2.2.1.length c759] 144), (g755, blk cl757 49), (g758, blk cl760 3), (g1283, blk cl1285 3), (some b1347, blk [iv x1340.fam, iv x1340.hd, iv x1340.fr, iv x1340.to] 34)] ∧ F39j3 (F39l1 lp0_0 lp0_1 lp1 N y714 y753 m1) u1282 v1287 x1340 = some r) ?_ ?_))
     ·
      refine rgn (by kernel_rfl) (pu (.bool y753.2.2.2.2) (by kernel_rfl) (pu (.bool y1371.2.2.2.2) (by kernel_rfl) (ifE hF (fun h175 hF => ?_) (fun h175 hF => ?_))))
      ·
       refine seq_c (s_neqB Try.underlying4 rfl rfl (fun h => absurd (a := y753.2.2.2.2 = y1371.2.2.2.2) h175 h) (fun _ => ?_))
       refine pu (.bool false) (by kernel_rfl) (puo (.pointer (some ⟨b763, 1, none⟩)) ⟨(by kernel_rfl), (by kernel_rfl)⟩ (seq_on (by kernel_rfl) (s_loadK hI 7 2 [iv y753.2.1, iv y753.2.2.1] Try.isAgg136 Try.sizeOf136 rfl rfl rfl rfl ?_)))
       refine puo (.pointer (some ⟨b1381, 1, none⟩)) ⟨(by kernel_rfl), (by kernel_rfl)⟩ (seq_on (by kernel_rfl) (s_loadK hI 0 2 [iv y1371.2.1, iv y1371.2.2.1] Try.isAgg136 Try.sizeOf136 rfl rfl rfl rfl ?_))
       refine ifE hF (fun h176 hF => ?_) (fun h176 hF => ?_)
       ·
        refine seq_on (by kernel_rfl) (s_neqA (b := decide (y753.2.1 = y1371.2.1) && decide (y753.2.2.1 = y1371.2.2.1)) rfl rfl (by kernel_rfl) (fun w => eq136 _ y753.2.1 y753.2.2.1 y1371.2.1 y1371.2.2.1 w) (fun h => absurd (a := (decide (y753.2.1 = y1371.2.1) && decide (y753.2.2.1 = y1371.2.2.1)) = true) h176 h) (fun _ => ?_))
        refine pu (.bool false) (by kernel_rfl) (seq_nil (.inr ?_))
        refine wp_condF rfl (wp_skip ?_)
        exact .inl ⟨rfl, ⟨g1283, c1284, cl1285, u1282, ⟨rfl, rfl, rfl, rfl, rfl, rfl, rfl, trivial⟩, hI.pickL [5, 6, 7, 8, 9, 10] (by decide) rfl, (r1286.to rfl rfl), hF⟩⟩
       ·
        refine seq_on (by kernel_rfl) (s_neqA (b := decide (y753.2.1 = y1371.2.1) && decide (y753.2.2.1 = y1371.2.2.1)) rfl rfl (by kernel_rfl) (fun w => eq136 _ y753.2.1 y753.2.2.1 y1371.2.1 y1371.2.2.1 w) (fun _ => ?_) (fun h => absurd (a := (decide (y753.2.1 = y1371.2.1) && decide (y753.2.2.1 = y1371.2.2.1)) = true) h h176))
        refine pu (.bool true) (by kernel_rfl) (seq_nil ?_)
        exact .inl ⟨rfl, ⟨⟨rfl, rfl, rfl, rfl, rfl, rfl, rfl, rfl, rfl, trivial⟩, hI.pickL [5, 6, 7, 8, 9, 10, 4] (by decide) rfl, hF⟩⟩
      ·
       refine seq_c (s_neqB Try.underlying4 rfl rfl (fun _ => ?_) (fun h => absurd (a := y753.2.2.2.2 = y1371.2.2.2.2) h h175))
       refine pu (.bool true) (by kernel_rfl) (of_ (by kernel_rfl) (of_ (by kernel_rfl) (of_ (by kernel_rfl) (of_ (by kernel_rfl) (of_ (by kernel_rfl) (pu (.bool true) (by kernel_rfl) (seq_nil ?_)))))))
       exact .inl ⟨rfl, ⟨⟨rfl, rfl, rfl, rfl, rfl, rfl, rfl, rfl, rfl, trivial⟩, hI.pickL [5, 6, 7, 8, 9, 10, 4] (by decide) rfl, hF⟩⟩
     ·intro ρ w hJ
      obtain ⟨hag, hI, hF⟩ := hJ
      obtain ⟨ρ, rfl⟩ := hag.form; clear hag
      unfold F39j3 at hF
      refine wp_condT rfl (rgn (by kernel_rfl) (pu (slv g1283 u1282.length c1284) (by kernel_rfl) (pu (.pointer (some ⟨b1347, 0, none⟩)) (by kernel_rfl) (seq_c (s_load1 hI 6 (iv x1340.fam) Try.isAgg3 rfl rfl rfl ?_)))))
      refine seq_c (s_new hI [iv x1340.fam] 3 (fun b => slv (some b) 1 1) (by kernel_rfl) ?_)
      intro b1382 w hI
      refine gdE hF (fun h174 hF => ?_)
      refine seq_c (s_appN hI Try.underlying52 (z := iv 0) (k := 1) (bytes := 8) (by kernel_rfl) rfl rfl 6 rfl rfl r1286 [iv x1340.fam] rfl rfl (hI.cells 0 (off := 0) rfl (fun j u h => by rw [Nat.zero_add]; exact h)) (by simp [Value.oneCell']) (by omega) (by omega) (n2 := (u1282 ++ [x1340.fam]).length) (app_len rfl rfl) ?_)
      intro g1383 c1384 cl1385 w hI r1386
      have r1386 : Row 1 g1383 ((u1282 ++ [x1340.fam]).length) c1384 cl1385 (flat eInt (u1282 ++ [x1340.fam])) := r1386.snoc _ rfl
      refine pu (slv g1383 ((u1282 ++ [x1340.fam]).length) c1384) (by kernel_rfl) (seq_nil ?_)
      exact .inl ⟨rfl, ⟨g1383, c1384, cl1385, u1282 ++ [x1340.fam], ⟨rfl, rfl, rfl, rfl, rfl, rfl, rfl, trivial⟩, hI.pickL [1, 2, 3, 4, 5, 6] (by decide) rfl, (r1386.to rfl rfl), hF⟩⟩
    ·intro ρ w hJ
     obtain ⟨g1336, c1337, cl1338, u1335, hag, hI, r1339, hF⟩ := hJ
     obtain ⟨ρ, rfl⟩ := hag.form; clear hag
     unfold F39j2 at hF
     refine rgn (by kernel_rfl) (ckE hF (fun h170 hF => ?_))
     refine seq_c (s_add rfl rfl h170 ?_)
     refine pu (iv (v1287 + 1)) (by kernel_rfl) (seq_nil ?_)
     exact ⟨rfl, m1, Nat.lt_succ_self _, ⟨g1336, c1337, cl1338, u1335, v1287 + 1, m1, ⟨rfl, rfl, rfl, rfl, rfl, rfl, rfl, trivial⟩, hI.pickL [0, 1, 2, 3, 4, 5] (by decide) rfl, (r1339.to rfl rfl), hF, rfl⟩⟩
   ·
    refine seq_c (s_lss rfl rfl (fun h => absurd (a := v1287 < (lp1.length : Int)) h h163) (fun _ => ?_))
    refine seq_nil (wp_seq (wp_condF rfl (wp_exit ?_)))
    refine wp_seq (rgn (by kernel_rfl) (pu (slv g1283 u1282.length c1284) (by kernel_rfl) (pu (slv g1283 u1282.length c1284) (by kernel_rfl) (pu (iv 0) (by kernel_rfl) (seq_nil (wp_ret ?_))))))
    replace hF := Option.some.inj hF; subst hF
    exact ⟨.tuple #[slv g1283 u1282.length c1284, iv 0], Ret.r2 rfl rfl rfl, ⟨g1283, c1284, cl1285, rfl, hI.pickL [5] (by decide) rfl, r1286.to rfl rfl⟩⟩


theorem L42 (w0 : World) (Ap0 : Option Addr) (cp0 : Nat) (lp0 : List Int) (Ap1 : Option Addr) (cp1 : Nat) (lp1 : List Int) (hCp0 : Cells w0 Ap0 (flat eInt lp0)) (hMp0 : lp0.length ≤ 9223372036854775807) (hKp0 : lp0.length ≤ cp0) (hCp1 : Cells w0 Ap1 (flat eInt lp1)) (hMp1 : lp1.length ≤ 9223372036854775807) (hKp1 : lp1.length ≤ cp1) (N : Nat) (r : Bool) (hF : F42 N lp0 lp1 = some r) : Does Try.prog 42 [.slice Ap0 lp0.length cp0, .slice Ap1 lp1.length cp1] w0 fun v w => v = .bool r ∧ Below w0.heap.size w0 w := by
 refine calls_of (n := 31) Try.func42 rfl Try.ntmps42 rfl ?_
 have hI := Inv.start w0
 unfold F42 at hF
 refine wp_seq (rgn (by kernel_rfl) (pu (.bool false) (by kernel_rfl) (seq_nil (wp_cutO (fun ρ w => ∃ (same_437 : Bool), Agree ρ [(0, .slice Ap0 lp0.length cp0), (1, .slice Ap1 lp1.length cp1), (5, .bool same_437)] ∧ Inv [] w0 w [] ∧ F42j1 lp0 lp1 N same_437 = some r) ?_ ?_))))
 ·
  refine rgn (by kernel_rfl) (pu (.slice Ap0 lp0.length cp0) (by kernel_rfl) (pu (iv ((lp0.length : Nat) : Int)) (by kernel_rfl) (pu (.slice Ap1 lp1.length cp1) (by kernel_rfl) (pu (iv ((lp1.length : Nat) : Int)) (by kernel_rfl) (ifE hF (fun h148 hF => ?_) (fun h148 hF => ?_))))))
  ·
   refine seq_c (s_eql rfl rfl (fun _ => ?_) (fun h => absurd (a := (lp0.length : Int) = (lp1.length : Int)) h148 h))
   refine pu (.bool true) (by kernel_rfl) (seq_nil ?_)
   exact .inl ⟨rfl, ⟨true, ⟨rfl, rfl, rfl, trivial⟩, hI.pickL [] (by decide) rfl, hF⟩⟩
  ·
   refine seq_c (s_eql rfl rfl (fun h => absurd (a := (lp0.length : Int) = (lp1.length : Int)) h h148) (fun _ => ?_))
   refine pu (.bool false) (by kernel_rfl) (seq_nil ?_)
   exact .inl ⟨rfl, ⟨false, ⟨rfl, rfl, rfl, trivial⟩, hI.pickL [] (by decide) rfl, hF⟩⟩
 ·intro ρ w hJ
  obtain ⟨same_437, hag, hI, hF⟩ := hJ
  obtain ⟨ρ, rfl⟩ := hag.form; clear hag
  unfold F42j1 at hF
  refine wp_cutO (fun ρ w => ∃ (same_655 : Bool), Agree ρ [(5, .bool same_655)] ∧ Inv [] w0 w [] ∧ F42j2 same_655 = some r) ?_ ?_
  ·
   refine wp_seq (rgn (by kernel_rfl) (pu (iv 0) (by kernel_rfl) (seq_nil (wp_block ?_))))
   refine wp_loop (fun m ρ w => ∃ (same_800 : Bool) (i_801 : Int) (mm : Nat), Agree ρ [(0, .slice Ap0 lp0.length cp0), (1, .slice Ap1 lp1.length cp1), (5, .bool same_800), (6, iv i_801)] ∧ Inv [] w0 w [] ∧ F42l3 lp0 lp1 mm same_800 i_801 = some r ∧ mm = m) (m := N) ⟨same_437, 0, N, ⟨rfl, rfl, rfl, rfl, trivial⟩, hI.pickL [] (by decide) rfl, hF, rfl⟩ ?_
   rintro m ρ w ⟨same_800, i_801, mm, hag, hI, hF, hm⟩
   subst hm; obtain ⟨ρ, rfl⟩ := hag.form; clear hag
   obtain _ | m3 := mm
   ·cases (show (none : Option Bool) = some r from hF)
   replace hF : F42b3 lp0 lp1 (F42l3 lp0 lp1 m3) same_800 i_801 = some r := hF; unfold F42b3 at hF
   refine wp_seq (wp_cutO (fun ρ w => ∃ (same_803 : Bool), Agree ρ [(0, .slice Ap0 lp0.length cp0), (1, .slice Ap1 lp1.length cp1), (5, .bool same_803), (6, iv i_801), (18, .bool false)] ∧ Inv [] w0 w [] ∧ F42j4 same_803 = some r) ?_ ?_)
   ·
    have hG := hF; rcases Bool.eq_false_or_eq_true same_800 with rfl | rfl
    ·
     have hF := hG; clear hG
     refine ifE hF (fun _ hF => ?_) (fun h => absurd rfl h)
     refine rgn (by kernel_rfl) (pu (iv i_801) (by kernel_rfl) (pu (.slice Ap0 lp0.length cp0) (by kernel_rfl) (pu (iv ((lp0.length : Nat) : Int)) (by kernel_rfl) (ifE hF (fun h141 hF => ?_) (fun h141 hF => ?_)))))
     ·
      refine seq_c (s_lss rfl rfl (fun _ => ?_) (fun h => absurd (a := i_801 < (lp0.length : Int)) h141 h))
      refine pu (.bool true) (by kernel_rfl) (puo (.bool true) ⟨(by kernel_rfl), (by kernel_rfl)⟩ (pu (.bool true) (by kernel_rfl) (seq_nil (.inr ?_))))
      refine wp_condT rfl (wp_skip (wp_cutO (fun ρ w => ∃ (same_838 : Bool), Agree ρ [(0, .slice Ap0 lp0.length cp0), (1, .slice Ap1 lp1.length cp1), (5, .bool same_838), (6, iv i_801)] ∧ Inv [] w0 w [] ∧ F42j5 (F42l3 lp0 lp1 m3) i_801 same_838 = some r) ?_ ?_))
      ·
       refine wp_block ?_
       refine gdE hF (fun h145 hF => ?_)
       refine bindE hF (fun x839 hx840 hF => ?_)
       refine bindE hF (fun x846 hx847 hF => ?_)
       refine ifE hF (fun h146 hF => ?_) (fun h146 hF => ?_)
       ·
        refine wp_drawn2 hI [] (by decide) rfl (by kernel_rfl) (by kernel_rfl) ?_
        intro hsub
        refine alp 0 (.slice Ap0 lp0.length cp0) hsub rfl (by kernel_rfl) (fun _ => (by kernel_rfl)) ?_
        refine alp 1 (iv i_801) hsub rfl (by kernel_rfl) (fun _ => (by kernel_rfl)) ?_
        obtain ⟨b853, o854, hA855, hb856, he857⟩ := hCp0.at_ eInt_len (by decide) hx840
        refine al_light 2 (.pointer (some ⟨b853, o854 + (i_801).toNat * 1, none⟩)) hsub rfl (by kernel_rfl) (fun w hI => s_indexA (i_801).toNat Try.underlying52 Try.sizeOf3 rfl hA855 rfl (Int.toNat_of_nonneg h145).symm (lt_n hx840 rfl) ⟨rfl, Below.refl _ _⟩) ?_
        refine al_light 3 (iv x839) hsub rfl (by kernel_rfl) (fun w hI => s_loadB1 hI (iv x839) Try.isAgg3 rfl hb856 (by simp) (he857 0 _ rfl) ⟨rfl, Below.refl _ _⟩) ?_
        refine alp 4 (.slice Ap1 lp1.length cp1) hsub rfl (by kernel_rfl) (fun _ => (by kernel_rfl)) ?_
        refine alp 5 (iv i_801) hsub rfl (by kernel_rfl) (fun _ => (by kernel_rfl)) ?_
        obtain ⟨b858, o859, hA860, hb861, he862⟩ := hCp1.at_ eInt_len (by decide) hx847
        refine al_light 6 (.pointer (some ⟨b858, o859 + (i_801).toNat * 1, none⟩)) hsub rfl (by kernel_rfl) (fun w hI => s_indexA (i_801).toNat Try.underlying52 Try.sizeOf3 rfl hA860 rfl (Int.toNat_of_nonneg h145).symm (lt_n hx847 rfl) ⟨rfl, Below.refl _ _⟩) ?_
        refine al_light 7 (iv x846) hsub rfl (by kernel_rfl) (fun w hI => s_loadB1 hI (iv x846) Try.isAgg3 rfl hb861 (by simp) (he862 0 _ rfl) ⟨rfl, Below.refl _ _⟩) ?_
        refine al_light 8 (.bool true) hsub rfl (by kernel_rfl) (fun w hI => s_eql rfl rfl (fun _ => ⟨rfl, Below.refl _ _⟩) (fun h => absurd (a := x839 = x846) h146 h)) ?_
        refine alp 9 (.bool true) hsub rfl (by kernel_rfl) (fun _ => (by kernel_rfl)) ?_
        refine any_end (by kernel_rfl) (fun w hI => ?_)
        exact .inl ⟨rfl, ⟨true, ⟨rfl, rfl, rfl, rfl, trivial⟩, hI.pickL [] (by decide) rfl, hF⟩⟩
       ·
        refine wp_drawn2 hI [] (by decide) rfl (by kernel_rfl) (by kernel_rfl) ?_
        intro hsub
        refine alp 0 (.slice Ap0 lp0.length cp0) hsub rfl (by kernel_rfl) (fun _ => (by kernel_rfl)) ?_
        refine alp 1 (iv i_801) hsub rfl (by kernel_rfl) (fun _ => (by kernel_rfl)) ?_
        obtain ⟨b863, o864, hA865, hb866, he867⟩ := hCp0.at_ eInt_len (by decide) hx840
        refine al_light 2 (.pointer (some ⟨b863, o864 + (i_801).toNat * 1, none⟩)) hsub rfl (by kernel_rfl) (fun w hI => s_indexA (i_801).toNat Try.underlying52 Try.sizeOf3 rfl hA865 rfl (Int.toNat_of_nonneg h145).symm (lt_n hx840 rfl) ⟨rfl, Below.refl _ _⟩) ?_
        refine al_light 3 (iv x839) hsub rfl (by kernel_rfl) (fun w hI => s_loadB1 hI (iv x839) Try.isAgg3 rfl hb866 (by simp) (he867 0 _ rfl) ⟨rfl, Below.refl _ _⟩) ?_
        refine alp 4 (.slice Ap1 lp1.length cp1) hsub rfl (by kernel_rfl) (fun _ => (by kernel_rfl)) ?_
        refine alp 5 (iv i_801) hsub rfl (by kernel_rfl) (fun _ => (by kernel_rfl)) ?_
        obtain ⟨b868, o869, hA870, hb871, he872⟩ := hCp1.at_ eInt_len (by decide) hx847
        refine al_light 6 (.pointer (some ⟨b868, o869 + (i_801).toNat * 1, none⟩)) hsub rfl (by kernel_rfl) (fun w hI => s_indexA (i_801).toNat Try.underlying52 Try.sizeOf3 rfl hA870 rfl (Int.toNat_of_nonneg h145).symm (lt_n hx847 rfl) ⟨rfl, Below.refl _ _⟩) ?_
        refine al_light 7 (iv x846) hsub rfl (by kernel_rfl) (fun w hI => s_loadB1 hI (iv x846) Try.isAgg3 rfl hb871 (by simp) (he872 0 _ rfl) ⟨rfl, Below.refl _ _⟩) ?_
        refine al_light 8 (.bool false) hsub rfl (by kernel_rfl) (fun w hI => s_eql rfl rfl (fun h => absurd (a := x839 = x846) h h146) (fun _ => ⟨rfl, Below.refl _ _⟩)) ?_
        refine alp 9 (.bool false) hsub rfl (by kernel_rfl) (fun _ => (by kernel_rfl)) ?_
        refine any_end (by kernel_rfl) (fun w hI => ?_)
        exact .inl ⟨rfl, ⟨false, ⟨rfl, rfl, rfl, rfl, trivial⟩, hI.pickL [] (by decide) rfl, hF⟩⟩
      ·intro ρ w hJ
       obtain ⟨same_838, hag, hI, hF⟩ := hJ
       obtain ⟨ρ, rfl⟩ := hag.form; clear hag
       unfold F42j5 at hF
       refine rgn (by kernel_rfl) (pu (iv i_801) (by kernel_rfl) (ckE hF (fun h144 hF => ?_)))
       refine seq_c (s_add rfl rfl h144 ?_)
       refine pu (iv (i_801 + 1)) (by kernel_rfl) (seq_nil ?_)
       exact ⟨rfl, m3, Nat.lt_succ_self _, ⟨same_838, i_801 + 1, m3, ⟨rfl, rfl, rfl, rfl, trivial⟩, hI.pickL [] (by decide) rfl, hF, rfl⟩⟩
     ·
      refine seq_c (s_lss rfl rfl (fun h => absurd (a := i_801 < (lp0.length : Int)) h h141) (fun _ => ?_))
      refine pu (.bool false) (by kernel_rfl) (of_ (by kernel_rfl) (pu (.bool false) (by kernel_rfl) (seq_nil ?_)))
      exact .inl ⟨rfl, ⟨true, ⟨rfl, rfl, rfl, rfl, rfl, trivial⟩, hI.pickL [] (by decide) rfl, hF⟩⟩
    ·
     have hF := hG; clear hG
     refine ifE hF (fun h => absurd h (by decide)) (fun _ hF => ?_)
     refine rgn (by kernel_rfl) (pu (iv i_801) (by kernel_rfl) (pu (.slice Ap0 lp0.length cp0) (by kernel_rfl) (pu (iv ((lp0.length : Nat) : Int)) (by kernel_rfl) (ifE hF (fun h147 hF => ?_) (fun h147 hF => ?_)))))
     ·
      refine seq_c (s_lss rfl rfl (fun _ => ?_) (fun h => absurd (a := i_801 < (lp0.length : Int)) h147 h))
      refine pu (.bool true) (by kernel_rfl) (puo (.bool false) ⟨(by kernel_rfl), (by kernel_rfl)⟩ (pu (.bool false) (by kernel_rfl) (seq_nil ?_)))
      exact .inl ⟨rfl, ⟨false, ⟨rfl, rfl, rfl, rfl, rfl, trivial⟩, hI.pickL [] (by decide) rfl, hF⟩⟩
     ·
      refine seq_c (s_lss rfl rfl (fun h => absurd (a := i_801 < (lp0.length : Int)) h h147) (fun _ => ?_))
      refine pu (.bool false) (by kernel_rfl) (of_ (by kernel_rfl) (pu (.bool false) (by kernel_rfl) (seq_nil ?_)))
      exact .inl ⟨rfl, ⟨false, ⟨rfl, rfl, rfl, rfl, rfl, trivial⟩, hI.pickL [] (by decide) rfl, hF⟩⟩
   ·intro ρ w hJ
    obtain ⟨same_803, hag, hI, hF⟩ := hJ
    obtain ⟨ρ, rfl⟩ := hag.form; clear hag
    unfold F42j4 at hF
    refine wp_condF rfl (wp_exit ?_)
    exact .inl ⟨rfl, ⟨same_803, ⟨rfl, trivial⟩, hI.pickL [] (by decide) rfl, hF⟩⟩
  ·intro ρ w hJ
   obtain ⟨same_655, hag, hI, hF⟩ := hJ
   obtain ⟨ρ, rfl⟩ := hag.form; clear hag
   unfold F42j2 at hF
   refine wp_seq ?_
   have hG := hF; rcases Bool.eq_false_or_eq_true same_655 with rfl | rfl
   ·
    have hF := hG; clear hG
    refine ifE hF (fun _ hF => ?_) (fun h => absurd rfl h)
    refine rgn (by kernel_rfl) (pu (.bool true) (by kernel_rfl) (pu (.bool true) (by kernel_rfl) (seq_nil (wp_ret ?_))))
    replace hF := Option.some.inj hF; subst hF
    exact ⟨.bool true, Ret.r1 rfl rfl, ⟨rfl, hI.below⟩⟩
   ·
    have hF := hG; clear hG
    refine ifE hF (fun h => absurd h (by decide)) (fun _ hF => ?_)
    refine rgn (by kernel_rfl) (pu (.bool false) (by kernel_rfl) (pu (.bool false) (by kernel_rfl) (seq_nil (wp_ret ?_))))
    replace hF := Option.some.inj hF; subst hF
    exact ⟨.bool false, Ret.r1 rfl rfl, ⟨rfl, hI.below⟩⟩


theorem L78 (w0 : World) (p0 : Gn) (r : Bool) (hF : F78 p0 = some r) : Does Try.prog 78 [.agg #[.int .i64 p0.num, .int .i64 p0.den]] w0 fun v w => v = .bool r ∧ Below w0.heap.size w0 w := by
 refine calls_of (n := 11) Try.func78 rfl Try.ntmps78 rfl ?_
 have hI := Inv.start w0
 unfold F78 at hF
 refine wp_seq (rgn (by kernel_rfl) (seq_c (s_boxI hI [iv p0.num, iv p0.den] rfl ?_)))
 intro b11 w hI
 refine pu (.bool false) (by kernel_rfl) (seq_nil (wp_seq (rgn (by kernel_rfl) (pu (.pointer (some ⟨b11, 0, none⟩)) (by kernel_rfl) (seq_c (s_load1 hI 0 (iv p0.num) Try.isAgg3 rfl rfl rfl ?_))))))
 refine bindE hF (fun y17 hy18 hF => ?_)
 refine ifE hF (fun h4 hF => ?_) (fun h4 hF => ?_)
 ·
  refine seq_c (s_callv hI 59 [iv p0.num, iv 0, iv 1000000] (.bool true) (by kernel_rfl) (Does.mono (L59 _ p0.num 0 1000000 _ hy18) (fun v' w' h => ⟨h.1.trans (congrArg Value.bool h4), h.2⟩)) ?_)
  intro w hI
  refine pu (.bool true) (by kernel_rfl) (puo (.pointer (some ⟨b11, 1, none⟩)) ⟨(by kernel_rfl), (by kernel_rfl)⟩ (seq_on (by kernel_rfl) (s_load1 hI 0 (iv p0.den) Try.isAgg3 rfl rfl rfl ?_)))
  refine bindE hF (fun y19 hy20 hF => ?_)
  refine seq_on (by kernel_rfl) (s_callv hI 59 [iv p0.den, iv 1, iv 1000000] (.bool y19) (by kernel_rfl) (L59 _ p0.den 1 1000000 _ hy20) ?_)
  intro w hI
  refine pu (.bool y19) (by kernel_rfl) (pu (.bool y19) (by kernel_rfl) (seq_nil (wp_ret ?_)))
  replace hF := Option.some.inj hF; subst hF
  exact ⟨.bool y19, Ret.r1 rfl rfl, ⟨rfl, hI.below⟩⟩
 ·
  refine seq_c (s_callv hI 59 [iv p0.num, iv 0, iv 1000000] (.bool false) (by kernel_rfl) (Does.mono (L59 _ p0.num 0 1000000 _ hy18) (fun v' w' h => ⟨h.1.trans (congrArg Value.bool (Bool.eq_false_iff.2 h4)), h.2⟩)) ?_)
  intro w hI
  refine pu (.bool false) (by kernel_rfl) (of_ (by kernel_rfl) (of_ (by kernel_rfl) (of_ (by kernel_rfl) (pu (.bool false) (by kernel_rfl) (pu (.bool false) (by kernel_rfl) (seq_nil (wp_ret ?_)))))))
  replace hF := Option.some.inj hF; subst hF
  exact ⟨.bool false, Ret.r1 rfl rfl, ⟨rfl, hI.below⟩⟩


theorem L90 (w0 : World) (Ap0_0 : Option Addr) (cp0_0 : Nat) (lp0_0 : List Ch) (Ap0_1 : Option Addr) (cp0_1 : Nat) (lp0_1 : List Ce) (bp0_2 : Nat) (esp0_2 : List En) (ckp0_2 : Nat) (Mp0_2 : Int → Option Int) (Ap0_3 : Option Addr) (cp0_3 : Nat) (lp0_3 : List Cl) (p1_0 : Int) (Ap1_1 : Option Addr) (cp1_1 : Nat) (lp1_1 : List Int) (hCp0_0 : Cells w0 Ap0_0 (flat eCh lp0_0)) (hMp0_0 : lp0_0.length ≤ 9223372036854775807) (hKp0_0 : lp0_0.length ≤ cp0_0) (hCp0_1 : Cells w0 Ap0_1 (flat eCe lp0_1)) (hMp0_1 : lp0_1.length ≤ 9223372036854775807) (hKp0_1 : lp0_1.length ≤ cp0_1) (hbp0_2 : w0.heap[bp0_2]? = some (mobj esp0_2 ckp0_2)) (hop0_2 : MOk esp0_2 ckp0_2) (hMp0_2 : ∀ j, mget esp0_2 j = (Mp0_2 j).map (Value.int .i64)) (hCp0_3 : Cells w0 Ap0_3 (flat eCl lp0_3)) (hMp0_3 : lp0_3.length ≤ 9223372036854775807) (hKp0_3 : lp0_3.length ≤ cp0_3) (hCp1_1 : Cells w0 Ap1_1 (flat eInt lp1_1)) (hMp1_1 : lp1_1.length ≤ 9223372036854775807) (hKp1_1 : lp1_1.length ≤ cp1_1) (N : Nat) (r : Bool) (hF : F90 N lp0_0 lp0_1 Mp0_2 lp0_3 p1_0 lp1_1 = some r) : Does Try.prog 90 [.agg #[.slice Ap0_0 lp0_0.length cp0_0, .slice Ap0_1 lp0_1.length cp0_1, .map (some bp0_2), .slice Ap0_3 lp0_3.length cp0_3], .agg #[.int .i64 p1_0, .slice Ap1_1 lp1_1.length cp1_1]] w0 fun v w => v = .bool r ∧ Below w0.heap.size w0 w := by
 refine calls_of (n := 52) Try.func90 rfl Try.ntmps90 rfl ?_
 have hI := Inv.start w0
 unfold F90 at hF
 refine wp_seq (rgn (by kernel_rfl) (seq_c (s_boxI hI [.slice Ap0_0 lp0_0.length cp0_0, .slice Ap0_1 lp0_1.length cp0_1, .map (some bp0_2), .slice Ap0_3 lp0_3.length cp0_3] rfl ?_)))
 intro b224 w hI
 refine seq_c (s_boxI hI [iv p1_0, .slice Ap1_1 lp1_1.length cp1_1] rfl ?_)
 intro b225 w hI
 refine pu (.bool false) (by kernel_rfl) (seq_nil (wp_seq (wp_seq (rgn (by kernel_rfl) (pu (.pointer (some ⟨b225, 0, none⟩)) (by kernel_rfl) (seq_c (s_load1 hI 0 (iv p1_0) Try.isAgg3 rfl rfl rfl ?_)))))))
 refine pu (.pointer (some ⟨b224, 3, none⟩)) (by kernel_rfl) (seq_c (s_load1 hI 1 (.slice Ap0_3 lp0_3.length cp0_3) Try.isAgg26 rfl rfl rfl ?_))
 refine pu (iv ((lp0_3.length : Nat) : Int)) (by kernel_rfl) (ckE hF (fun h88 hF => ?_))
 refine seq_c (s_sub rfl rfl h88 ?_)
 refine bindE hF (fun y238 hy239 hF => ?_)
 refine ifE hF (fun h89 hF => ?_) (fun h89 hF => ?_)
 ·
  refine seq_c (s_callv hI 59 [iv p1_0, iv 0, iv ((lp0_3.length : Int) - 1)] (.bool true) (by kernel_rfl) (Does.mono (L59 _ p1_0 0 ((lp0_3.length : Int) - 1) _ hy239) (fun v' w' h => ⟨h.1.trans (congrArg Value.bool h89), h.2⟩)) ?_)
  intro w hI
  refine pu (.bool false) (by kernel_rfl) (pu (.bool false) (by kernel_rfl) (puo (.pointer (some ⟨b225, 1, none⟩)) ⟨(by kernel_rfl), (by kernel_rfl)⟩ (seq_on (by kernel_rfl) (s_load1 hI 0 (.slice Ap1_1 lp1_1.length cp1_1) Try.isAgg52 rfl rfl rfl ?_))))
  refine puo (iv ((lp1_1.length : Nat) : Int)) ⟨(by kernel_rfl), (by kernel_rfl)⟩ (puo (.pointer (some ⟨b224, 3, none⟩)) ⟨(by kernel_rfl), (by kernel_rfl)⟩ (seq_on (by kernel_rfl) (s_load1 hI 1 (.slice Ap0_3 lp0_3.length cp0_3) Try.isAgg26 rfl rfl rfl ?_)))
  refine puo (iv ((lp0_3.length : Nat) : Int)) ⟨(by kernel_rfl), (by kernel_rfl)⟩ (puo (.pointer (some ⟨b225, 0, none⟩)) ⟨(by kernel_rfl), (by kernel_rfl)⟩ (seq_on (by kernel_rfl) (s_load1 hI 0 (iv p1_0) Try.isAgg3 rfl rfl rfl ?_)))
  refine ckE hF (fun h90 hF => ?_)
  refine seq_on (by kernel_rfl) (s_sub rfl rfl h90 ?_)
  refine ckE hF (fun h91 hF => ?_)
  refine seq_on (by kernel_rfl) (s_add rfl rfl h91 ?_)
  refine bindE hF (fun y240 hy241 hF => ?_)
  refine ifE hF (fun h92 hF => ?_) (fun h92 hF => ?_)
  ·
   refine seq_on (by kernel_rfl) (s_callv hI 59 [iv (lp1_1.length : Int), iv 2, iv (((lp0_3.length : Int) - p1_0) + 1)] (.bool true) (by kernel_rfl) (Does.mono (L59 _ (lp1_1.length : Int) 2 (((lp0_3.length : Int) - p1_0) + 1) _ hy241) (fun v' w' h => ⟨h.1.trans (congrArg Value.bool h92), h.2⟩)) ?_)
   intro w hI
   refine puo (.bool false) ⟨(by kernel_rfl), (by kernel_rfl)⟩ (pu (.bool false) (by kernel_rfl) (seq_nil (wp_condF rfl (wp_skip (wp_cutO (fun ρ w => Agree ρ [(2, .pointer (some ⟨b224, 0, none⟩)), (3, .pointer (some ⟨b225, 0, none⟩))] ∧ Inv [] w0 w [(some b224, blk [.slice Ap0_0 lp0_0.length cp0_0, .slice Ap0_1 lp0_1.length cp0_1, .map (some bp0_2), .slice Ap0_3 lp0_3.length cp0_3] 120), (some b225, blk [iv p1_0, .slice Ap1_1 lp1_1.length cp1_1] 67)] ∧ F90j1 lp0_3 p1_0 lp1_1 = some r) ?_ ?_)))))
   ·
    refine wp_seq (rgn (by kernel_rfl) (pu (.pointer (some ⟨b225, 1, none⟩)) (by kernel_rfl) (seq_c (s_load1 hI 0 (.slice Ap1_1 lp1_1.length cp1_1) Try.isAgg52 rfl rfl rfl ?_))))
    refine pu (iv ((lp1_1.length : Nat) : Int)) (by kernel_rfl) (pu (iv 0) (by kernel_rfl) (seq_nil (wp_block ?_)))
    refine wp_loop (fun m ρ w => ∃ (v424 : Int) (mm : Nat), Agree ρ [(2, .pointer (some ⟨b224, 0, none⟩)), (3, .pointer (some ⟨b225, 0, none⟩)), (30, .slice Ap1_1 lp1_1.length cp1_1), (31, iv (lp1_1.length : Int)), (32, iv v424)] ∧ Inv [] w0 w [(some b224, blk [.slice Ap0_0 lp0_0.length cp0_0, .slice Ap0_1 lp0_1.length cp0_1, .map (some bp0_2), .slice Ap0_3 lp0_3.length cp0_3] 120), (some b225, blk [iv p1_0, .slice Ap1_1 lp1_1.length cp1_1] 67)] ∧ F90l2 lp0_3 p1_0 lp1_1 mm v424 = some r ∧ mm = m) (m := N) ⟨0, N, ⟨rfl, rfl, rfl, rfl, rfl, trivial⟩, hI.pickL [1, 0] (by decide) rfl, hF, rfl⟩ ?_
    rintro m ρ w ⟨v424, mm, hag, hI, hF, hm⟩
    subst hm; obtain ⟨ρ, rfl⟩ := hag.form; clear hag
    obtain _ | m2 := mm
    ·cases (show (none : Option Bool) = some r from hF)
    replace hF : F90b2 lp0_3 p1_0 lp1_1 (F90l2 lp0_3 p1_0 lp1_1 m2) v424 = some r := hF; unfold F90b2 at hF
    refine wp_seq (rgn (by kernel_rfl) (ifE hF (fun h137 hF => ?_) (fun h137 hF => ?_)))
    ·
     refine seq_c (s_lss rfl rfl (fun _ => ?_) (fun h => absurd (a := v424 < (lp1_1.length : Int)) h137 h))
     refine seq_nil (wp_seq (wp_condT rfl (wp_skip (wp_seq (wp_block ?_)))))
     refine wp_seq (rgn (by kernel_rfl) (gdE hF (fun h141 hF => ?_)))
     refine bindE hF (fun x436 hx437 hF => ?_)
     obtain ⟨b438, o439, hA440, hb441, he442⟩ := hCp1_1.at_ eInt_len (by decide) hx437
     refine seq_c (s_indexA (v424).toNat Try.underlying52 Try.sizeOf3 rfl hA440 rfl (Int.toNat_of_nonneg h141).symm (lt_n hx437 rfl) ?_)
     refine seq_c (s_loadB1 hI (iv x436) Try.isAgg3 rfl hb441 (by simp) (he442 0 _ rfl) ?_)
     refine pu (iv x436) (by kernel_rfl) (seq_nil (wp_seq (rgn (by kernel_rfl) (pu (iv x436) (by kernel_rfl) (bindE hF (fun y445 hy446 hF => ?_))))))
     refine ifE hF (fun h143 hF => ?_) (fun h143 hF => ?_)
     ·
      refine seq_c (s_callv hI 59 [iv x436, iv 0, iv 25] (.bool true) (by kernel_rfl) (Does.mono (L59 _ x436 0 25 _ hy446) (fun v' w' h => ⟨h.1.trans (congrArg Value.bool h143), h.2⟩)) ?_)
      intro w hI
      refine pu (.bool false) (by kernel_rfl) (seq_nil (wp_condF rfl (wp_skip (rgn (by kernel_rfl) (ckE hF (fun h144 hF => ?_))))))
      refine seq_c (s_add rfl rfl h144 ?_)
      refine pu (iv (v424 + 1)) (by kernel_rfl) (seq_nil ?_)
      exact ⟨rfl, m2, Nat.lt_succ_self _, ⟨v424 + 1, m2, ⟨rfl, rfl, rfl, rfl, rfl, trivial⟩, hI.pickL [0, 1] (by decide) rfl, hF, rfl⟩⟩
     ·
      refine seq_c (s_callv hI 59 [iv x436, iv 0, iv 25] (.bool false) (by kernel_rfl) (Does.mono (L59 _ x436 0 25 _ hy446) (fun v' w' h => ⟨h.1.trans (congrArg Value.bool (Bool.eq_false_iff.2 h143)), h.2⟩)) ?_)
      intro w hI
      refine pu (.bool true) (by kernel_rfl) (seq_nil (wp_condT rfl (wp_seq (rgn (by kernel_rfl) (pu (.bool false) (by kernel_rfl) (seq_nil (wp_ret ?_)))))))
      replace hF := Option.some.inj hF; subst hF
      exact ⟨.bool false, Ret.r1 rfl rfl, ⟨rfl, hI.below⟩⟩
    ·
     refine seq_c (s_lss rfl rfl (fun h => absurd (a := v424 < (lp1_1.length : Int)) h h137) (fun _ => ?_))
     refine seq_nil (wp_seq (wp_condF rfl (wp_exit ?_)))
     exact .inl ⟨rfl, ⟨⟨rfl, rfl, trivial⟩, hI.pickL [0, 1] (by decide) rfl, hF⟩⟩
   ·intro ρ w hJ
    obtain ⟨hag, hI, hF⟩ := hJ
    obtain ⟨ρ, rfl⟩ := hag.form; clear hag
    unfold F90j1 at hF
    refine wp_seq (bindE hF (fun x345 hx346 hF => ?_))
    refine gdE hF (fun h119 hF => ?_)
    refine bindE hF (fun x352 hx353 hF => ?_)
    refine ifE hF (fun h120 hF => ?_) (fun h120 hF => ?_)
    ·
     refine wp_drawn2 hI [0, 1] (by decide) rfl (by kernel_rfl) (by kernel_rfl) ?_
     intro hsub
     refine alp 0 (.pointer (some ⟨b225, 1, none⟩)) hsub rfl (by kernel_rfl) (fun _ => (by kernel_rfl)) ?_
     refine al_light 1 (.slice Ap1_1 lp1_1.length cp1_1) hsub rfl (by kernel_rfl) (fun w hI => s_load1 hI 1 (.slice Ap1_1 lp1_1.length cp1_1) Try.isAgg52 rfl rfl rfl ⟨rfl, Below.refl _ _⟩) ?_
     obtain ⟨b359, o360, hA361, hb362, he363⟩ := hCp1_1.at_ eInt_len (by decide) hx346
     refine al_light 2 (.pointer (some ⟨b359, o360 + 0 * 1, none⟩)) hsub rfl (by kernel_rfl) (fun w hI => s_indexA 0 Try.underlying52 Try.sizeOf3 rfl hA361 rfl rfl (lt_n hx346 rfl) ⟨rfl, Below.refl _ _⟩) ?_
     refine al_light 3 (iv x345) hsub rfl (by kernel_rfl) (fun w hI => s_loadB1 hI (iv x345) Try.isAgg3 rfl hb362 (by simp) (he363 0 _ rfl) ⟨rfl, Below.refl _ _⟩) ?_
     refine alp 4 (.pointer (some ⟨b224, 3, none⟩)) hsub rfl (by kernel_rfl) (fun _ => (by kernel_rfl)) ?_
     refine al_light 5 (.slice Ap0_3 lp0_3.length cp0_3) hsub rfl (by kernel_rfl) (fun w hI => s_load1 hI 0 (.slice Ap0_3 lp0_3.length cp0_3) Try.isAgg26 rfl rfl rfl ⟨rfl, Below.refl _ _⟩) ?_
     refine alp 6 (.pointer (some ⟨b225, 0, none⟩)) hsub rfl (by kernel_rfl) (fun _ => (by kernel_rfl)) ?_
     refine al_light 7 (iv p1_0) hsub rfl (by kernel_rfl) (fun w hI => s_load1 hI 1 (iv p1_0) Try.isAgg3 rfl rfl rfl ⟨rfl, Below.refl _ _⟩) ?_
     obtain ⟨b364, o365, hA366, hb367, he368⟩ := hCp0_3.at_ eCl_len (by decide) hx353
     refine al_light 8 (.pointer (some ⟨b364, o365 + (p1_0).toNat * 4, none⟩)) hsub rfl (by kernel_rfl) (fun w hI => s_indexA (p1_0).toNat Try.underlying26 Try.sizeOf34 rfl hA366 rfl (Int.toNat_of_nonneg h119).symm (lt_n hx353 rfl) ⟨rfl, Below.refl _ _⟩) ?_
     refine alp 9 (.pointer (some ⟨b364, o365 + (p1_0).toNat * 4 + 2, none⟩)) hsub rfl (by kernel_rfl) (fun _ => (by kernel_rfl)) ?_
     refine al_light 10 (iv x352.fr) hsub rfl (by kernel_rfl) (fun w hI => s_loadB1 hI (iv x352.fr) Try.isAgg3 rfl hb367 (by simp) (he368 2 _ rfl) ⟨rfl, Below.refl _ _⟩) ?_
     refine al_light 11 (.bool true) hsub rfl (by kernel_rfl) (fun w hI => s_eql rfl rfl (fun _ => ⟨rfl, Below.refl _ _⟩) (fun h => absurd (a := x345 = x352.fr) h120 h)) ?_
     refine alp 12 (.bool true) hsub rfl (by kernel_rfl) (fun _ => (by kernel_rfl)) ?_
     refine any_end (by kernel_rfl) (fun w hI => ?_)
     refine wp_ret ?_
     replace hF := Option.some.inj hF; subst hF
     exact ⟨.bool true, Ret.r1 rfl rfl, ⟨rfl, hI.below⟩⟩
    ·
     refine wp_drawn2 hI [0, 1] (by decide) rfl (by kernel_rfl) (by kernel_rfl) ?_
     intro hsub
     refine alp 0 (.pointer (some ⟨b225, 1, none⟩)) hsub rfl (by kernel_rfl) (fun _ => (by kernel_rfl)) ?_
     refine al_light 1 (.slice Ap1_1 lp1_1.length cp1_1) hsub rfl (by kernel_rfl) (fun w hI => s_load1 hI 1 (.slice Ap1_1 lp1_1.length cp1_1) Try.isAgg52 rfl rfl rfl ⟨rfl, Below.refl _ _⟩) ?_
     obtain ⟨b369, o370, hA371, hb372, he373⟩ := hCp1_1.at_ eInt_len (by decide) hx346
     refine al_light 2 (.pointer (some ⟨b369, o370 + 0 * 1, none⟩)) hsub rfl (by kernel_rfl) (fun w hI => s_indexA 0 Try.underlying52 Try.sizeOf3 rfl hA371 rfl rfl (lt_n hx346 rfl) ⟨rfl, Below.refl _ _⟩) ?_
     refine al_light 3 (iv x345) hsub rfl (by kernel_rfl) (fun w hI => s_loadB1 hI (iv x345) Try.isAgg3 rfl hb372 (by simp) (he373 0 _ rfl) ⟨rfl, Below.refl _ _⟩) ?_
     refine alp 4 (.pointer (some ⟨b224, 3, none⟩)) hsub rfl (by kernel_rfl) (fun _ => (by kernel_rfl)) ?_
     refine al_light 5 (.slice Ap0_3 lp0_3.length cp0_3) hsub rfl (by kernel_rfl) (fun w hI => s_load1 hI 0 (.slice Ap0_3 lp0_3.length cp0_3) Try.isAgg26 rfl rfl rfl ⟨rfl, Below.refl _ _⟩) ?_
     refine alp 6 (.pointer (some ⟨b225, 0, none⟩)) hsub rfl (by kernel_rfl) (fun _ => (by kernel_rfl)) ?_
     refine al_light 7 (iv p1_0) hsub rfl (by kernel_rfl) (fun w hI => s_load1 hI 1 (iv p1_0) Try.isAgg3 rfl rfl rfl ⟨rfl, Below.refl _ _⟩) ?_
     obtain ⟨b374, o375, hA376, hb377, he378⟩ := hCp0_3.at_ eCl_len (by decide) hx353
     refine al_light 8 (.pointer (some ⟨b374, o375 + (p1_0).toNat * 4, none⟩)) hsub rfl (by kernel_rfl) (fun w hI => s_indexA (p1_0).toNat Try.underlying26 Try.sizeOf34 rfl hA376 rfl (Int.toNat_of_nonneg h119).symm (lt_n hx353 rfl) ⟨rfl, Below.refl _ _⟩) ?_
     refine alp 9 (.pointer (some ⟨b374, o375 + (p1_0).toNat * 4 + 2, none⟩)) hsub rfl (by kernel_rfl) (fun _ => (by kernel_rfl)) ?_
     refine al_light 10 (iv x352.fr) hsub rfl (by kernel_rfl) (fun w hI => s_loadB1 hI (iv x352.fr) Try.isAgg3 rfl hb377 (by simp) (he378 2 _ rfl) ⟨rfl, Below.refl _ _⟩) ?_
     refine al_light 11 (.bool false) hsub rfl (by kernel_rfl) (fun w hI => s_eql rfl rfl (fun h => absurd (a := x345 = x352.fr) h h120) (fun _ => ⟨rfl, Below.refl _ _⟩)) ?_
     refine alp 12 (.bool false) hsub rfl (by kernel_rfl) (fun _ => (by kernel_rfl)) ?_
     refine any_end (by kernel_rfl) (fun w hI => ?_)
     refine wp_ret ?_
     replace hF := Option.some.inj hF; subst hF
     exact ⟨.bool false, Ret.r1 rfl rfl, ⟨rfl, hI.below⟩⟩
  ·
   refine seq_on (by kernel_rfl) (s_callv hI 59 [iv (lp1_1.length : Int), iv 2, iv (((lp0_3.length : Int) - p1_0) + 1)] (.bool false) (by kernel_rfl) (Does.mono (L59 _ (lp1_1.length : Int) 2 (((lp0_3.length : Int) - p1_0) + 1) _ hy241) (fun v' w' h => ⟨h.1.trans (congrArg Value.bool (Bool.eq_false_iff.2 h92)), h.2⟩)) ?_)
   intro w hI
   refine puo (.bool true) ⟨(by kernel_rfl), (by kernel_rfl)⟩ (pu (.bool true) (by kernel_rfl) (seq_nil (wp_condT rfl (wp_seq (rgn (by kernel_rfl) (pu (.bool false) (by kernel_rfl) (seq_nil (wp_ret ?_))))))))
   replace hF := Option.some.inj hF; subst hF
   exact ⟨.bool false, Ret.r1 rfl rfl, ⟨rfl, hI.below⟩⟩
 ·
  refine seq_c (s_callv hI 59 [iv p1_0, iv 0, iv ((lp0_3.length : Int) - 1)] (.bool false) (by kernel_rfl) (Does.mono (L59 _ p1_0 0 ((lp0_3.length : Int) - 1) _ hy239) (fun v' w' h => ⟨h.1.trans (congrArg Value.bool (Bool.eq_false_iff.2 h89)), h.2⟩)) ?_)
  intro w hI
  refine pu (.bool true) (by kernel_rfl) (pu (.bool true) (by kernel_rfl) (of_ (by kernel_rfl) (of_ (by kernel_rfl) (of_ (by kernel_rfl) (of_ (by kernel_rfl) (of_ (by kernel_rfl) (of_ (by kernel_rfl) (of_ (by kernel_rfl) (of_ (by kernel_rfl) ?_)))))))))
  refine of_ (by kernel_rfl) (of_ (by kernel_rfl) (of_ (by kernel_rfl) (of_ (by kernel_rfl) (pu (.bool true) (by kernel_rfl) (seq_nil (wp_condT rfl (wp_seq (rgn (by kernel_rfl) (pu (.bool false) (by kernel_rfl) ?_)))))))))
  refine seq_nil (wp_ret ?_)
  replace hF := Option.some.inj hF; subst hF
  exact ⟨.bool false, Ret.r1 rfl rfl, ⟨rfl, hI.below⟩⟩


theorem L91 (w0 : World) (Ap0_0 : Option Addr) (cp0_0 : Nat) (lp0_0 : List Ch) (Ap0_1 : Option Addr) (cp0_1 : Nat) (lp0_1 : List Ce) (bp0_2 : Nat) (esp0_2 : List En) (ckp0_2 : Nat) (Mp0_2 : Int → Option Int) (Ap0_3 : Option Addr) (cp0_3 : Nat) (lp0_3 : List Cl) (p1_0 : Int) (Ap1_1 : Option Addr) (cp1_1 : Nat) (lp1_1 : List Int) (p2 : Gn) (hCp0_0 : Cells w0 Ap0_0 (flat eCh lp0_0)) (hMp0_0 : lp0_0.length ≤ 9223372036854775807) (hKp0_0 : lp0_0.length ≤ cp0_0) (hCp0_1 : Cells w0 Ap0_1 (flat eCe lp0_1)) (hMp0_1 : lp0_1.length ≤ 9223372036854775807) (hKp0_1 : lp0_1.length ≤ cp0_1) (hbp0_2 : w0.heap[bp0_2]? = some (mobj esp0_2 ckp0_2)) (hop0_2 : MOk esp0_2 ckp0_2) (hMp0_2 : ∀ j, mget esp0_2 j = (Mp0_2 j).map (Value.int .i64)) (hCp0_3 : Cells w0 Ap0_3 (flat eCl lp0_3)) (hMp0_3 : lp0_3.length ≤ 9223372036854775807) (hKp0_3 : lp0_3.length ≤ cp0_3) (hCp1_1 : Cells w0 Ap1_1 (flat eInt lp1_1)) (hMp1_1 : lp1_1.length ≤ 9223372036854775807) (hKp1_1 : lp1_1.length ≤ cp1_1) (N : Nat) (r : Bool) (hF : F91 N lp0_0 lp0_1 Mp0_2 lp0_3 p1_0 lp1_1 p2 = some r) : Does Try.prog 91 [.agg #[.slice Ap0_0 lp0_0.length cp0_0, .slice Ap0_1 lp0_1.length cp0_1, .map (some bp0_2), .slice Ap0_3 lp0_3.length cp0_3], .agg #[.int .i64 p1_0, .slice Ap1_1 lp1_1.length cp1_1], .agg #[.int .i64 p2.num, .int .i64 p2.den]] w0 fun v w => v = .bool r ∧ Below w0.heap.size w0 w := by
 refine calls_of (n := 77) Try.func91 rfl Try.ntmps91 rfl ?_
 have hI := Inv.start w0
 unfold F91 at hF
 refine wp_seq (rgn (by kernel_rfl) (seq_c (s_boxI hI [.slice Ap0_0 lp0_0.length cp0_0, .slice Ap0_1 lp0_1.length cp0_1, .map (some bp0_2), .slice Ap0_3 lp0_3.length cp0_3] rfl ?_)))
 intro b853 w hI
 refine seq_c (s_boxI hI [iv p1_0, .slice Ap1_1 lp1_1.length cp1_1] rfl ?_)
 intro b854 w hI
 refine seq_c (s_boxI hI [iv p2.num, iv p2.den] rfl ?_)
 intro b855 w hI
 refine pu (.bool false) (by kernel_rfl) (seq_nil (wp_seq (rgn (by kernel_rfl) (pu (.pointer (some ⟨b854, 1, none⟩)) (by kernel_rfl) (seq_c (s_load1 hI 1 (.slice Ap1_1 lp1_1.length cp1_1) Try.isAgg52 rfl rfl rfl ?_))))))
 refine pu (iv ((lp1_1.length : Nat) : Int)) (by kernel_rfl) (ckE hF (fun h188 hF => ?_))
 refine seq_c (s_sub rfl rfl h188 ?_)
 refine pu (iv ((lp1_1.length : Int) - 1)) (by kernel_rfl) (seq_nil (wp_cutO (fun ρ w => Agree ρ [(3, .pointer (some ⟨b853, 0, none⟩)), (4, .pointer (some ⟨b854, 0, none⟩)), (7, iv ((lp1_1.length : Int) - 1))] ∧ Inv [] w0 w [(some b853, blk [.slice Ap0_0 lp0_0.length cp0_0, .slice Ap0_1 lp0_1.length cp0_1, .map (some bp0_2), .slice Ap0_3 lp0_3.length cp0_3] 120), (some b854, blk [iv p1_0, .slice Ap1_1 lp1_1.length cp1_1] 67)] ∧ F91j1 lp0_3 p1_0 lp1_1 = some r) ?_ ?_))
 ·
  refine wp_seq (rgn (by kernel_rfl) (pu (.pointer (some ⟨b853, 3, none⟩)) (by kernel_rfl) (seq_c (s_load1 hI 2 (.slice Ap0_3 lp0_3.length cp0_3) Try.isAgg26 rfl rfl rfl ?_))))
  refine pu (.pointer (some ⟨b854, 0, none⟩)) (by kernel_rfl) (seq_c (s_load1 hI 1 (iv p1_0) Try.isAgg3 rfl rfl rfl ?_))
  refine pu (.pointer (some ⟨b854, 0, none⟩)) (by kernel_rfl) (seq_c (s_load1 hI 1 (iv p1_0) Try.isAgg3 rfl rfl rfl ?_))
  refine pu (iv ((lp1_1.length : Int) - 1)) (by kernel_rfl) (ckE hF (fun h291 hF => ?_))
  refine seq_c (s_add rfl rfl h291 ?_)
  refine gdE hF (fun h292 hF => ?_)
  refine gdE hF (fun h293 hF => ?_)
  refine gdE hF (fun h294 hF => ?_)
  obtain ⟨A1317, hC1318, hA1317⟩ := cutA (enc := eCl) (l := lp0_3) (lo := (p1_0).toNat) (hi := (p1_0 + ((lp1_1.length : Int) - 1)).toNat) (c := cp0_3) (k := 4) eCl_len hCp0_3 h294 hKp0_3
  refine seq_c (hA1317 Try.underlying26 Try.sizeOf34 rfl (.inl (congrArg (fun z => some (Value.int .i64 z)) (Int.toNat_of_nonneg h292).symm)) (.inl (congrArg (fun z => some (Value.int .i64 z)) (Int.toNat_of_nonneg h293).symm)) ?_)
  refine pu (iv ((((lp0_3.drop (p1_0).toNat).take ((p1_0 + ((lp1_1.length : Int) - 1)).toNat - (p1_0).toNat)).length : Nat) : Int)) (by kernel_rfl) (pu (iv 0) (by kernel_rfl) (seq_nil (wp_block ?_)))
  refine wp_loop (fun m ρ w => ∃ (v1576 : Int) (mm : Nat), Agree ρ [(3, .pointer (some ⟨b853, 0, none⟩)), (4, .pointer (some ⟨b854, 0, none⟩)), (5, .pointer (some ⟨b855, 0, none⟩)), (7, iv ((lp1_1.length : Int) - 1)), (24, .slice A1317 (((lp0_3.drop (p1_0).toNat).take ((p1_0 + ((lp1_1.length : Int) - 1)).toNat - (p1_0).toNat)).length) (cp0_3 - (p1_0).toNat)), (25, iv (((lp0_3.drop (p1_0).toNat).take ((p1_0 + ((lp1_1.length : Int) - 1)).toNat - (p1_0).toNat)).length : Int)), (26, iv v1576)] ∧ Inv [] w0 w [(some b853, blk [.slice Ap0_0 lp0_0.length cp0_0, .slice Ap0_1 lp0_1.length cp0_1, .map (some bp0_2), .slice Ap0_3 lp0_3.length cp0_3] 120), (some b854, blk [iv p1_0, .slice Ap1_1 lp1_1.length cp1_1] 67), (some b855, blk [iv p2.num, iv p2.den] 136)] ∧ F91l2 lp0_0 lp0_1 Mp0_2 lp0_3 p1_0 lp1_1 p2 N mm v1576 = some r ∧ mm = m) (m := N) ⟨0, N, ⟨rfl, rfl, rfl, rfl, rfl, rfl, rfl, trivial⟩, hI.pickL [2, 1, 0] (by decide) rfl, hF, rfl⟩ ?_
  rintro m ρ w ⟨v1576, mm, hag, hI, hF, hm⟩
  subst hm; obtain ⟨ρ, rfl⟩ := hag.form; clear hag
  obtain _ | m2 := mm
  ·cases (show (none : Option Bool) = some r from hF)
  replace hF : F91b2 lp0_0 lp0_1 Mp0_2 lp0_3 p1_0 lp1_1 p2 N (F91l2 lp0_0 lp0_1 Mp0_2 lp0_3 p1_0 lp1_1 p2 N m2) v1576 = some r := hF; unfold F91b2 at hF
  refine wp_seq (rgn (by kernel_rfl) (ifE hF (fun h346 hF => ?_) (fun h346 hF => ?_)))
  ·
   refine seq_c (s_lss rfl rfl (fun _ => ?_) (fun h => absurd (a := v1576 < (((lp0_3.drop (p1_0).toNat).take ((p1_0 + ((lp1_1.length : Int) - 1)).toNat - (p1_0).toNat)).length : Int)) h346 h))
   refine seq_nil (wp_seq (wp_condT rfl (wp_skip (wp_seq (wp_block ?_)))))
   refine wp_seq (rgn (by kernel_rfl) (pu (iv v1576) (by kernel_rfl) (gdE hF (fun h360 hF => ?_))))
   refine bindE hF (fun x1641 hx1642 hF => ?_)
   obtain ⟨b1643, o1644, hA1645, hb1646, he1647⟩ := hC1318.at_ eCl_len (by decide) hx1642
   refine seq_c (s_indexA (v1576).toNat Try.underlying26 Try.sizeOf34 rfl hA1645 rfl (Int.toNat_of_nonneg h360).symm (lt_n hx1642 rfl) ?_)
   refine seq_c (s_loadBK hI [iv x1641.fam, iv x1641.hd, iv x1641.fr, iv x1641.to] Try.isAgg34 Try.sizeOf34 rfl rfl hb1646 (by simp) he1647 ?_)
   refine seq_c (s_allocI hI [iv 0, iv 0, iv 0, iv 0] Try.zeroValue34 rfl ?_)
   intro b1648 w hI
   refine pu (iv v1576) (by kernel_rfl) (seq_c (s_store hI 0 4 [iv x1641.fam, iv x1641.hd, iv x1641.fr, iv x1641.to] Try.sizeOf34 rfl rfl rfl rfl rfl (Nat.le_of_ble_eq_true rfl) ?_))
   intro w hI
   refine seq_nil (wp_seq (bindE hF (fun x1673 hx1674 hF => ?_)))
   refine ckE hF (fun h363 hF => ?_)
   refine gdE hF (fun h364 hF => ?_)
   refine bindE hF (fun x1680 hx1681 hF => ?_)
   refine wp_drawn2 hI [0, 1, 2, 3] (by decide) rfl (by kernel_rfl) (by kernel_rfl) ?_
   intro hsub
   refine alp 0 (.pointer (some ⟨b854, 1, none⟩)) hsub rfl (by kernel_rfl) (fun _ => (by kernel_rfl)) ?_
   refine al_light 1 (.slice Ap1_1 lp1_1.length cp1_1) hsub rfl (by kernel_rfl) (fun w hI => s_load1 hI 2 (.slice Ap1_1 lp1_1.length cp1_1) Try.isAgg52 rfl rfl rfl ⟨rfl, Below.refl _ _⟩) ?_
   refine alp 2 (iv v1576) hsub rfl (by kernel_rfl) (fun _ => (by kernel_rfl)) ?_
   obtain ⟨b1687, o1688, hA1689, hb1690, he1691⟩ := hCp1_1.at_ eInt_len (by decide) hx1674
   refine al_light 3 (.pointer (some ⟨b1687, o1688 + (v1576).toNat * 1, none⟩)) hsub rfl (by kernel_rfl) (fun w hI => s_indexA (v1576).toNat Try.underlying52 Try.sizeOf3 rfl hA1689 rfl (Int.toNat_of_nonneg h360).symm (lt_n hx1674 rfl) ⟨rfl, Below.refl _ _⟩) ?_
   refine al_light 4 (iv x1673) hsub rfl (by kernel_rfl) (fun w hI => s_loadB1 hI (iv x1673) Try.isAgg3 rfl hb1690 (by simp) (he1691 0 _ rfl) ⟨rfl, Below.refl _ _⟩) ?_
   refine alp 5 (.pointer (some ⟨b1648, 2, none⟩)) hsub rfl (by kernel_rfl) (fun _ => (by kernel_rfl)) ?_
   refine al_light 6 (iv x1641.fr) hsub rfl (by kernel_rfl) (fun w hI => s_load1 hI 0 (iv x1641.fr) Try.isAgg3 rfl rfl rfl ⟨rfl, Below.refl _ _⟩) ?_
   refine alp 7 (iv (if x1641.fr > x1673 then x1641.fr else x1673)) hsub rfl (by kernel_rfl) (fun _ => (by kernel_rfl)) ?_
   refine alp 8 (.pointer (some ⟨b854, 1, none⟩)) hsub rfl (by kernel_rfl) (fun _ => (by kernel_rfl)) ?_
   refine al_light 9 (.slice Ap1_1 lp1_1.length cp1_1) hsub rfl (by kernel_rfl) (fun w hI => s_load1 hI 2 (.slice Ap1_1 lp1_1.length cp1_1) Try.isAgg52 rfl rfl rfl ⟨rfl, Below.refl _ _⟩) ?_
   refine alp 10 (iv v1576) hsub rfl (by kernel_rfl) (fun _ => (by kernel_rfl)) ?_
   refine al_light 11 (iv (v1576 + 1)) hsub rfl (by kernel_rfl) (fun w hI => s_add rfl rfl h363 ⟨rfl, Below.refl _ _⟩) ?_
   obtain ⟨b1692, o1693, hA1694, hb1695, he1696⟩ := hCp1_1.at_ eInt_len (by decide) hx1681
   refine al_light 12 (.pointer (some ⟨b1692, o1693 + ((v1576 + 1).toNat) * 1, none⟩)) hsub rfl (by kernel_rfl) (fun w hI => s_indexA ((v1576 + 1).toNat) Try.underlying52 Try.sizeOf3 rfl hA1694 rfl (Int.toNat_of_nonneg h364).symm (lt_n hx1681 rfl) ⟨rfl, Below.refl _ _⟩) ?_
   refine al_light 13 (iv x1680) hsub rfl (by kernel_rfl) (fun w hI => s_loadB1 hI (iv x1680) Try.isAgg3 rfl hb1695 (by simp) (he1696 0 _ rfl) ⟨rfl, Below.refl _ _⟩) ?_
   refine alp 14 (iv (if x1641.fr > x1673 then x1641.fr else x1673)) hsub rfl (by kernel_rfl) (fun _ => (by kernel_rfl)) ?_
   refine alp 15 (iv x1680) hsub rfl (by kernel_rfl) (fun _ => (by kernel_rfl)) ?_
   refine any_end (by kernel_rfl) (fun w hI => ?_)
   refine wp_seq (wp_seq (rgn (by kernel_rfl) (pu (iv x1680) (by kernel_rfl) (pu (iv (if x1641.fr > x1673 then x1641.fr else x1673)) (by kernel_rfl) (ifE hF (fun h368 hF => ?_) (fun h368 hF => ?_))))))
   ·
    refine seq_c (s_leq rfl rfl (fun _ => ?_) (fun h => absurd (a := x1680 ≤ (if x1641.fr > x1673 then x1641.fr else x1673)) h368 h))
    refine seq_nil (wp_condT rfl (wp_seq (rgn (by kernel_rfl) (pu (.bool false) (by kernel_rfl) (seq_nil (wp_ret ?_))))))
    replace hF := Option.some.inj hF; subst hF
    exact ⟨.bool false, Ret.r1 rfl rfl, ⟨rfl, hI.below⟩⟩
   ·
    refine seq_c (s_leq rfl rfl (fun h => absurd (a := x1680 ≤ (if x1641.fr > x1673 then x1641.fr else x1673)) h h368) (fun _ => ?_))
    refine seq_nil (wp_condF rfl (wp_skip (wp_seq (ckE hF (fun h371 hF => ?_)))))
    refine bindE hF (fun y1701 hy1702 hF => ?_)
    refine bindE hF (fun y1703 hy1704 hF => ?_)
    refine ifE hF (fun h372 hF => ?_) (fun h372 hF => ?_)
    ·
     refine wp_drawn2 hI [0, 1, 2, 3] (by decide) rfl (by kernel_rfl) (by kernel_rfl) ?_
     intro hsub
     refine alp 0 (.pointer (some ⟨b853, 0, none⟩)) hsub rfl (by kernel_rfl) (fun _ => (by kernel_rfl)) ?_
     refine al_light 1 (.agg #[.slice Ap0_0 lp0_0.length cp0_0, .slice Ap0_1 lp0_1.length cp0_1, .map (some bp0_2)]) hsub rfl (by kernel_rfl) (fun w hI => s_loadK hI 1 3 [.slice Ap0_0 lp0_0.length cp0_0, .slice Ap0_1 lp0_1.length cp0_1, .map (some bp0_2)] Try.isAgg115 Try.sizeOf115 rfl rfl rfl rfl ⟨rfl, Below.refl _ _⟩) ?_
     refine al_light 2 (.agg #[iv x1641.fam, iv x1641.hd, iv x1641.fr, iv x1641.to]) hsub rfl (by kernel_rfl) (fun w hI => s_loadK hI 0 4 [iv x1641.fam, iv x1641.hd, iv x1641.fr, iv x1641.to] Try.isAgg34 Try.sizeOf34 rfl rfl rfl rfl ⟨rfl, Below.refl _ _⟩) ?_
     refine alp 3 (iv (if x1641.fr > x1673 then x1641.fr else x1673)) hsub rfl (by kernel_rfl) (fun _ => (by kernel_rfl)) ?_
     refine alp 4 (iv x1680) hsub rfl (by kernel_rfl) (fun _ => (by kernel_rfl)) ?_
     refine al_light 5 (iv (x1680 - 2)) hsub rfl (by kernel_rfl) (fun w hI => s_sub rfl rfl h371 ⟨rfl, Below.refl _ _⟩) ?_
     refine alp 6 (.agg #[iv (if x1641.fr > x1673 then x1641.fr else x1673), iv (x1680 - 2)]) hsub rfl (by kernel_rfl) (fun _ => (by kernel_rfl)) ?_
     refine al_light 7 (.agg #[iv y1701.1, iv y1701.2]) hsub rfl (by kernel_rfl) (fun w hI => s_call 94 [.agg #[.slice Ap0_0 lp0_0.length cp0_0, .slice Ap0_1 lp0_1.length cp0_1, .map (some bp0_2)], .agg #[iv x1641.fam, iv x1641.hd, iv x1641.fr, iv x1641.to], .agg #[iv (if x1641.fr > x1673 then x1641.fr else x1673), iv (x1680 - 2)]] (by kernel_rfl) (L94 _ Ap0_0 cp0_0 lp0_0 Ap0_1 cp0_1 lp0_1 bp0_2 esp0_2 ckp0_2 Mp0_2 x1641 (⟨if x1641.fr > x1673 then x1641.fr else x1673, x1680 - 2⟩ : Dr) (hCp0_0.inv0 hI) hMp0_0 hKp0_0 (hCp0_1.inv0 hI) hMp0_1 hKp0_1 (hI.at0 (hbp0_2)) hop0_2 hMp0_2 N _ hy1702) (fun v' w' h => h)) ?_
     refine al_light 8 (.agg #[iv p2.num, iv p2.den]) hsub rfl (by kernel_rfl) (fun w hI => s_loadK hI 3 2 [iv p2.num, iv p2.den] Try.isAgg136 Try.sizeOf136 rfl rfl rfl rfl ⟨rfl, Below.refl _ _⟩) ?_
     refine al_light 9 (iv y1703) hsub rfl (by kernel_rfl) (fun w hI => s_call 79 [.agg #[iv y1701.1, iv y1701.2], .agg #[iv p2.num, iv p2.den]] (by kernel_rfl) (L79 _ (⟨y1701.1, y1701.2⟩ : Gn) p2 _ hy1704) (fun v' w' h => h)) ?_
     refine al_light 10 (.bool true) hsub rfl (by kernel_rfl) (fun w hI => s_gtr rfl rfl (fun _ => ⟨rfl, Below.refl _ _⟩) (fun h => absurd (a := 0 < y1703) h372 h)) ?_
     refine any_end (by kernel_rfl) (fun w hI => ?_)
     refine wp_condT rfl (wp_seq (rgn (by kernel_rfl) (pu (.bool false) (by kernel_rfl) (seq_nil (wp_ret ?_)))))
     replace hF := Option.some.inj hF; subst hF
     exact ⟨.bool false, Ret.r1 rfl rfl, ⟨rfl, hI.below⟩⟩
    ·
     refine wp_drawn2 hI [0, 1, 2, 3] (by decide) rfl (by kernel_rfl) (by kernel_rfl) ?_
     intro hsub
     refine alp 0 (.pointer (some ⟨b853, 0, none⟩)) hsub rfl (by kernel_rfl) (fun _ => (by kernel_rfl)) ?_
     refine al_light 1 (.agg #[.slice Ap0_0 lp0_0.length cp0_0, .slice Ap0_1 lp0_1.length cp0_1, .map (some bp0_2)]) hsub rfl (by kernel_rfl) (fun w hI => s_loadK hI 1 3 [.slice Ap0_0 lp0_0.length cp0_0, .slice Ap0_1 lp0_1.length cp0_1, .map (some bp0_2)] Try.isAgg115 Try.sizeOf115 rfl rfl rfl rfl ⟨rfl, Below.refl _ _⟩) ?_
     refine al_light 2 (.agg #[iv x1641.fam, iv x1641.hd, iv x1641.fr, iv x1641.to]) hsub rfl (by kernel_rfl) (fun w hI => s_loadK hI 0 4 [iv x1641.fam, iv x1641.hd, iv x1641.fr, iv x1641.to] Try.isAgg34 Try.sizeOf34 rfl rfl rfl rfl ⟨rfl, Below.refl _ _⟩) ?_
     refine alp 3 (iv (if x1641.fr > x1673 then x1641.fr else x1673)) hsub rfl (by kernel_rfl) (fun _ => (by kernel_rfl)) ?_
     refine alp 4 (iv x1680) hsub rfl (by kernel_rfl) (fun _ => (by kernel_rfl)) ?_
     refine al_light 5 (iv (x1680 - 2)) hsub rfl (by kernel_rfl) (fun w hI => s_sub rfl rfl h371 ⟨rfl, Below.refl _ _⟩) ?_
     refine alp 6 (.agg #[iv (if x1641.fr > x1673 then x1641.fr else x1673), iv (x1680 - 2)]) hsub rfl (by kernel_rfl) (fun _ => (by kernel_rfl)) ?_
     refine al_light 7 (.agg #[iv y1701.1, iv y1701.2]) hsub rfl (by kernel_rfl) (fun w hI => s_call 94 [.agg #[.slice Ap0_0 lp0_0.length cp0_0, .slice Ap0_1 lp0_1.length cp0_1, .map (some bp0_2)], .agg #[iv x1641.fam, iv x1641.hd, iv x1641.fr, iv x1641.to], .agg #[iv (if x1641.fr > x1673 then x1641.fr else x1673), iv (x1680 - 2)]] (by kernel_rfl) (L94 _ Ap0_0 cp0_0 lp0_0 Ap0_1 cp0_1 lp0_1 bp0_2 esp0_2 ckp0_2 Mp0_2 x1641 (⟨if x1641.fr > x1673 then x1641.fr else x1673, x1680 - 2⟩ : Dr) (hCp0_0.inv0 hI) hMp0_0 hKp0_0 (hCp0_1.inv0 hI) hMp0_1 hKp0_1 (hI.at0 (hbp0_2)) hop0_2 hMp0_2 N _ hy1702) (fun v' w' h => h)) ?_
     refine al_light 8 (.agg #[iv p2.num, iv p2.den]) hsub rfl (by kernel_rfl) (fun w hI => s_loadK hI 3 2 [iv p2.num, iv p2.den] Try.isAgg136 Try.sizeOf136 rfl rfl rfl rfl ⟨rfl, Below.refl _ _⟩) ?_
     refine al_light 9 (iv y1703) hsub rfl (by kernel_rfl) (fun w hI => s_call 79 [.agg #[iv y1701.1, iv y1701.2], .agg #[iv p2.num, iv p2.den]] (by kernel_rfl) (L79 _ (⟨y1701.1, y1701.2⟩ : Gn) p2 _ hy1704) (fun v' w' h => h)) ?_
     refine al_light 10 (.bool false) hsub rfl (by kernel_rfl) (fun w hI => s_gtr rfl rfl (fun h => absurd (a := 0 < y1703) h h372) (fun _ => ⟨rfl, Below.refl _ _⟩)) ?_
     refine any_end (by kernel_rfl) (fun w hI => ?_)
     refine wp_condF rfl (wp_skip (rgn (by kernel_rfl) (seq_c (s_add rfl rfl h363 ?_))))
     refine pu (iv (v1576 + 1)) (by kernel_rfl) (seq_nil ?_)
     exact ⟨rfl, m2, Nat.lt_succ_self _, ⟨v1576 + 1, m2, ⟨rfl, rfl, rfl, rfl, rfl, rfl, rfl, trivial⟩, hI.pickL [1, 2, 3] (by decide) rfl, hF, rfl⟩⟩
  ·
   refine seq_c (s_lss rfl rfl (fun h => absurd (a := v1576 < (((lp0_3.drop (p1_0).toNat).take ((p1_0 + ((lp1_1.length : Int) - 1)).toNat - (p1_0).toNat)).length : Int)) h h346) (fun _ => ?_))
   refine seq_nil (wp_seq (wp_condF rfl (wp_exit ?_)))
   exact .inl ⟨rfl, ⟨⟨rfl, rfl, rfl, trivial⟩, hI.pickL [0, 1] (by decide) rfl, hF⟩⟩
 ·intro ρ w hJ
  obtain ⟨hag, hI, hF⟩ := hJ
  obtain ⟨ρ, rfl⟩ := hag.form; clear hag
  unfold F91j1 at hF
  refine wp_seq (gdE hF (fun h281 hF => ?_))
  refine bindE hF (fun x1281 hx1282 hF => ?_)
  refine ckE hF (fun h282 hF => ?_)
  refine ckE hF (fun h283 hF => ?_)
  refine ckE hF (fun h284 hF => ?_)
  refine gdE hF (fun h285 hF => ?_)
  refine bindE hF (fun x1288 hx1289 hF => ?_)
  refine ifE hF (fun h286 hF => ?_) (fun h286 hF => ?_)
  ·
   refine wp_drawn2 hI [0, 1] (by decide) rfl (by kernel_rfl) (by kernel_rfl) ?_
   intro hsub
   refine alp 0 (.pointer (some ⟨b854, 1, none⟩)) hsub rfl (by kernel_rfl) (fun _ => (by kernel_rfl)) ?_
   refine al_light 1 (.slice Ap1_1 lp1_1.length cp1_1) hsub rfl (by kernel_rfl) (fun w hI => s_load1 hI 1 (.slice Ap1_1 lp1_1.length cp1_1) Try.isAgg52 rfl rfl rfl ⟨rfl, Below.refl _ _⟩) ?_
   refine alp 2 (iv ((lp1_1.length : Int) - 1)) hsub rfl (by kernel_rfl) (fun _ => (by kernel_rfl)) ?_
   obtain ⟨b1295, o1296, hA1297, hb1298, he1299⟩ := hCp1_1.at_ eInt_len (by decide) hx1282
   refine al_light 3 (.pointer (some ⟨b1295, o1296 + (((lp1_1.length : Int) - 1).toNat) * 1, none⟩)) hsub rfl (by kernel_rfl) (fun w hI => s_indexA (((lp1_1.length : Int) - 1).toNat) Try.underlying52 Try.sizeOf3 rfl hA1297 rfl (Int.toNat_of_nonneg h281).symm (lt_n hx1282 rfl) ⟨rfl, Below.refl _ _⟩) ?_
   refine al_light 4 (iv x1281) hsub rfl (by kernel_rfl) (fun w hI => s_loadB1 hI (iv x1281) Try.isAgg3 rfl hb1298 (by simp) (he1299 0 _ rfl) ⟨rfl, Below.refl _ _⟩) ?_
   refine al_light 5 (iv (x1281 - 1)) hsub rfl (by kernel_rfl) (fun w hI => s_sub rfl rfl h282 ⟨rfl, Below.refl _ _⟩) ?_
   refine alp 6 (.pointer (some ⟨b853, 3, none⟩)) hsub rfl (by kernel_rfl) (fun _ => (by kernel_rfl)) ?_
   refine al_light 7 (.slice Ap0_3 lp0_3.length cp0_3) hsub rfl (by kernel_rfl) (fun w hI => s_load1 hI 0 (.slice Ap0_3 lp0_3.length cp0_3) Try.isAgg26 rfl rfl rfl ⟨rfl, Below.refl _ _⟩) ?_
   refine alp 8 (.pointer (some ⟨b854, 0, none⟩)) hsub rfl (by kernel_rfl) (fun _ => (by kernel_rfl)) ?_
   refine al_light 9 (iv p1_0) hsub rfl (by kernel_rfl) (fun w hI => s_load1 hI 1 (iv p1_0) Try.isAgg3 rfl rfl rfl ⟨rfl, Below.refl _ _⟩) ?_
   refine alp 10 (iv ((lp1_1.length : Int) - 1)) hsub rfl (by kernel_rfl) (fun _ => (by kernel_rfl)) ?_
   refine al_light 11 (iv (p1_0 + ((lp1_1.length : Int) - 1))) hsub rfl (by kernel_rfl) (fun w hI => s_add rfl rfl h283 ⟨rfl, Below.refl _ _⟩) ?_
   refine al_light 12 (iv ((p1_0 + ((lp1_1.length : Int) - 1)) - 1)) hsub rfl (by kernel_rfl) (fun w hI => s_sub rfl rfl h284 ⟨rfl, Below.refl _ _⟩) ?_
   obtain ⟨b1300, o1301, hA1302, hb1303, he1304⟩ := hCp0_3.at_ eCl_len (by decide) hx1289
   refine al_light 13 (.pointer (some ⟨b1300, o1301 + (((p1_0 + ((lp1_1.length : Int) - 1)) - 1).toNat) * 4, none⟩)) hsub rfl (by kernel_rfl) (fun w hI => s_indexA (((p1_0 + ((lp1_1.length : Int) - 1)) - 1).toNat) Try.underlying26 Try.sizeOf34 rfl hA1302 rfl (Int.toNat_of_nonneg h285).symm (lt_n hx1289 rfl) ⟨rfl, Below.refl _ _⟩) ?_
   refine alp 14 (.pointer (some ⟨b1300, o1301 + (((p1_0 + ((lp1_1.length : Int) - 1)) - 1).toNat) * 4 + 3, none⟩)) hsub rfl (by kernel_rfl) (fun _ => (by kernel_rfl)) ?_
   refine al_light 15 (iv x1288.to) hsub rfl (by kernel_rfl) (fun w hI => s_loadB1 hI (iv x1288.to) Try.isAgg3 rfl hb1303 (by simp) (he1304 3 _ rfl) ⟨rfl, Below.refl _ _⟩) ?_
   refine al_light 16 (.bool true) hsub rfl (by kernel_rfl) (fun w hI => s_gtr rfl rfl (fun _ => ⟨rfl, Below.refl _ _⟩) (fun h => absurd (a := x1288.to < (x1281 - 1)) h286 h)) ?_
   refine alp 17 (.bool true) hsub rfl (by kernel_rfl) (fun _ => (by kernel_rfl)) ?_
   refine any_end (by kernel_rfl) (fun w hI => ?_)
   refine wp_ret ?_
   replace hF := Option.some.inj hF; subst hF
   exact ⟨.bool true, Ret.r1 rfl rfl, ⟨rfl, hI.below⟩⟩
  ·
   refine wp_drawn2 hI [0, 1] (by decide) rfl (by kernel_rfl) (by kernel_rfl) ?_
   intro hsub
   refine alp 0 (.pointer (some ⟨b854, 1, none⟩)) hsub rfl (by kernel_rfl) (fun _ => (by kernel_rfl)) ?_
   refine al_light 1 (.slice Ap1_1 lp1_1.length cp1_1) hsub rfl (by kernel_rfl) (fun w hI => s_load1 hI 1 (.slice Ap1_1 lp1_1.length cp1_1) Try.isAgg52 rfl rfl rfl ⟨rfl, Below.refl _ _⟩) ?_
   refine alp 2 (iv ((lp1_1.length : Int) - 1)) hsub rfl (by kernel_rfl) (fun _ => (by kernel_rfl)) ?_
   obtain ⟨b1305, o1306, hA1307, hb1308, he1309⟩ := hCp1_1.at_ eInt_len (by decide) hx1282
   refine al_light 3 (.pointer (some ⟨b1305, o1306 + (((lp1_1.length : Int) - 1).toNat) * 1, none⟩)) hsub rfl (by kernel_rfl) (fun w hI => s_indexA (((lp1_1.length : Int) - 1).toNat) Try.underlying52 Try.sizeOf3 rfl hA1307 rfl (Int.toNat_of_nonneg h281).symm (lt_n hx1282 rfl) ⟨rfl, Below.refl _ _⟩) ?_
   refine al_light 4 (iv x1281) hsub rfl (by kernel_rfl) (fun w hI => s_loadB1 hI (iv x1281) Try.isAgg3 rfl hb1308 (by simp) (he1309 0 _ rfl) ⟨rfl, Below.refl _ _⟩) ?_
   refine al_light 5 (iv (x1281 - 1)) hsub rfl (by kernel_rfl) (fun w hI => s_sub rfl rfl h282 ⟨rfl, Below.refl _ _⟩) ?_
   refine alp 6 (.pointer (some ⟨b853, 3, none⟩)) hsub rfl (by kernel_rfl) (fun _ => (by kernel_rfl)) ?_
   refine al_light 7 (.slice Ap0_3 lp0_3.length cp0_3) hsub rfl (by kernel_rfl) (fun w hI => s_load1 hI 0 (.slice Ap0_3 lp0_3.length cp0_3) Try.isAgg26 rfl rfl rfl ⟨rfl, Below.refl _ _⟩) ?_
   refine alp 8 (.pointer (some ⟨b854, 0, none⟩)) hsub rfl (by kernel_rfl) (fun _ => (by kernel_rfl)) ?_
   refine al_light 9 (iv p1_0) hsub rfl (by kernel_rfl) (fun w hI => s_load1 hI 1 (iv p1_0) Try.isAgg3 rfl rfl rfl ⟨rfl, Below.refl _ _⟩) ?_
   refine alp 10 (iv ((lp1_1.length : Int) - 1)) hsub rfl (by kernel_rfl) (fun _ => (by kernel_rfl)) ?_
   refine al_light 11 (iv (p1_0 + ((lp1_1.length : Int) - 1))) hsub rfl (by kernel_rfl) (fun w hI => s_add rfl rfl h283 ⟨rfl, Below.refl _ _⟩) ?_
   refine al_light 12 (iv ((p1_0 + ((lp1_1.length : Int) - 1)) - 1)) hsub rfl (by kernel_rfl) (fun w hI => s_sub rfl rfl h284 ⟨rfl, Below.refl _ _⟩) ?_
   obtain ⟨b1310, o1311, hA1312, hb1313, he1314⟩ := hCp0_3.at_ eCl_len (by decide) hx1289
   refine al_light 13 (.pointer (some ⟨b1310, o1311 + (((p1_0 + ((lp1_1.length : Int) - 1)) - 1).toNat) * 4, none⟩)) hsub rfl (by kernel_rfl) (fun w hI => s_indexA (((p1_0 + ((lp1_1.length : Int) - 1)) - 1).toNat) Try.underlying26 Try.sizeOf34 rfl hA1312 rfl (Int.toNat_of_nonneg h285).symm (lt_n hx1289 rfl) ⟨rfl, Below.refl _ _⟩) ?_
   refine alp 14 (.pointer (some ⟨b1310, o1311 + (((p1_0 + ((lp1_1.length : Int) - 1)) - 1).toNat) * 4 + 3, none⟩)) hsub rfl (by kernel_rfl) (fun _ => (by kernel_rfl)) ?_
   refine al_light 15 (iv x1288.to) hsub rfl (by kernel_rfl) (fun w hI => s_loadB1 hI (iv x1288.to) Try.isAgg3 rfl hb1313 (by simp) (he1314 3 _ rfl) ⟨rfl, Below.refl _ _⟩) ?_
   refine al_light 16 (.bool false) hsub rfl (by kernel_rfl) (fun w hI => s_gtr rfl rfl (fun h => absurd (a := x1288.to < (x1281 - 1)) h h286) (fun _ => ⟨rfl, Below.refl _ _⟩)) ?_
   refine alp 17 (.bool false) hsub rfl (by kernel_rfl) (fun _ => (by kernel_rfl)) ?_
   refine any_end (by kernel_rfl) (fun w hI => ?_)
   refine wp_ret ?_
   replace hF := Option.some.inj hF; subst hF
   exact ⟨.bool false, Ret.r1 rfl rfl, ⟨rfl, hI.below⟩⟩


theorem L47 (w0 : World) (Ap0_0 : Option Addr) (cp0_0 : Nat) (lp0_0 : List Ch) (Ap0_1 : Option Addr) (cp0_1 : Nat) (lp0_1 : List Ce) (Ap1 : Option Addr) (cp1 : Nat) (lp1 : List Cl) (p2_0 : Int) (Ap2_1 : Option Addr) (cp2_1 : Nat) (lp2_1 : List Int) (p3 : Gn) (hCp0_0 : Cells w0 Ap0_0 (flat eCh lp0_0)) (hMp0_0 : lp0_0.length ≤ 9223372036854775807) (hKp0_0 : lp0_0.length ≤ cp0_0) (hCp0_1 : Cells w0 Ap0_1 (flat eCe lp0_1)) (hMp0_1 : lp0_1.length ≤ 9223372036854775807) (hKp0_1 : lp0_1.length ≤ cp0_1) (hCp1 : Cells w0 Ap1 (flat eCl lp1)) (hMp1 : lp1.length ≤ 9223372036854775807) (hKp1 : lp1.length ≤ cp1) (hCp2_1 : Cells w0 Ap2_1 (flat eInt lp2_1)) (hMp2_1 : lp2_1.length ≤ 9223372036854775807) (hKp2_1 : lp2_1.length ≤ cp2_1) (N : Nat) (r : Int) (hF : F47 N lp0_0 lp0_1 lp1 p2_0 lp2_1 p3 = some r) : Does Try.prog 47 [.agg #[.slice Ap0_0 lp0_0.length cp0_0, .slice Ap0_1 lp0_1.length cp0_1], .slice Ap1 lp1.length cp1, .agg #[.int .i64 p2_0, .slice Ap2_1 lp2_1.length cp2_1], .agg #[.int .i64 p3.num, .int .i64 p3.den]] w0 fun v w => v = .int .i64 r ∧ Below w0.heap.size w0 w := by
 refine calls_of (n := 34) Try.func47 rfl Try.ntmps47 rfl ?_
 have hI := Inv.start w0
 unfold F47 at hF
 refine wp_seq (rgn (by kernel_rfl) (seq_c (s_boxI hI [.slice Ap0_0 lp0_0.length cp0_0, .slice Ap0_1 lp0_1.length cp0_1] rfl ?_)))
 intro b57 w hI
 refine seq_c (s_boxI hI [iv p2_0, .slice Ap2_1 lp2_1.length cp2_1] rfl ?_)
 intro b58 w hI
 refine seq_c (s_boxI hI [iv p3.num, iv p3.den] rfl ?_)
 intro b59 w hI
 refine pu (iv 0) (by kernel_rfl) (seq_nil (wp_seq (rgn (by kernel_rfl) (seq_c (s_loadK hI 2 2 [.slice Ap0_0 lp0_0.length cp0_0, .slice Ap0_1 lp0_1.length cp0_1] Try.isAgg25 Try.sizeOf25 rfl rfl rfl rfl ?_)))))
 refine pu (.slice Ap1 lp1.length cp1) (by kernel_rfl) (bindS3E hF (fun y75 hy76 hF => ?_) (fun y77 hy78 hF => ?_) (fun y79 hy80 hF => ?_))
 ·
  refine seq_c (s_callv hI 64 [.agg #[.slice Ap0_0 lp0_0.length cp0_0, .slice Ap0_1 lp0_1.length cp0_1], .slice Ap1 lp1.length cp1] (.tuple #[.agg #[.slice none 0 0, .slice none 0 0, .map none, .slice none 0 0], iv 42]) (by kernel_rfl) (L64 _ Ap0_0 cp0_0 lp0_0 Ap0_1 cp0_1 lp0_1 Ap1 cp1 lp1 (hCp0_0.inv0 hI) hMp0_0 hKp0_0 (hCp0_1.inv0 hI) hMp0_1 hKp0_1 (hCp1.inv0 hI) hMp1 hKp1 N _ hy76) ?_)
  intro w hI
  refine pu (.tuple #[.agg #[.slice none 0 0, .slice none 0 0, .map none, .slice none 0 0], iv 42]) (by kernel_rfl) (pu (.agg #[.slice none 0 0, .slice none 0 0, .map none, .slice none 0 0]) (by kernel_rfl) (pu (iv 42) (by kernel_rfl) (seq_c (s_allocI hI [.slice none 0 0, .slice none 0 0, .map none, .slice none 0 0] Try.zeroValue120 rfl ?_))))
  intro b81 w hI
  refine seq_c (s_store hI 0 4 [.slice none 0 0, .slice none 0 0, .map none, .slice none 0 0] Try.sizeOf120 rfl rfl rfl rfl rfl (Nat.le_of_ble_eq_true rfl) ?_)
  intro w hI
  refine pu (iv 42) (by kernel_rfl) (seq_nil (wp_seq (wp_seq (rgn (by kernel_rfl) (pu (iv 42) (by kernel_rfl) (seq_c (s_neq rfl rfl (fun _ => ?_) (fun h => absurd (a := 42 = 0) h (by decide)))))))))
  refine seq_nil (wp_condT rfl (wp_seq (rgn (by kernel_rfl) (pu (iv 42) (by kernel_rfl) (pu (iv 42) (by kernel_rfl) (seq_nil (wp_ret ?_)))))))
  replace hF := Option.some.inj hF; subst hF
  exact ⟨iv 42, Ret.r1 rfl rfl, ⟨rfl, hI.below⟩⟩
 ·
  refine seq_c (s_callv hI 64 [.agg #[.slice Ap0_0 lp0_0.length cp0_0, .slice Ap0_1 lp0_1.length cp0_1], .slice Ap1 lp1.length cp1] (.tuple #[.agg #[.slice none 0 0, .slice none 0 0, .map none, .slice none 0 0], iv 44]) (by kernel_rfl) (L64 _ Ap0_0 cp0_0 lp0_0 Ap0_1 cp0_1 lp0_1 Ap1 cp1 lp1 (hCp0_0.inv0 hI) hMp0_0 hKp0_0 (hCp0_1.inv0 hI) hMp0_1 hKp0_1 (hCp1.inv0 hI) hMp1 hKp1 N _ hy78) ?_)
  intro w hI
  refine pu (.tuple #[.agg #[.slice none 0 0, .slice none 0 0, .map none, .slice none 0 0], iv 44]) (by kernel_rfl) (pu (.agg #[.slice none 0 0, .slice none 0 0, .map none, .slice none 0 0]) (by kernel_rfl) (pu (iv 44) (by kernel_rfl) (seq_c (s_allocI hI [.slice none 0 0, .slice none 0 0, .map none, .slice none 0 0] Try.zeroValue120 rfl ?_))))
  intro b82 w hI
  refine seq_c (s_store hI 0 4 [.slice none 0 0, .slice none 0 0, .map none, .slice none 0 0] Try.sizeOf120 rfl rfl rfl rfl rfl (Nat.le_of_ble_eq_true rfl) ?_)
  intro w hI
  refine pu (iv 44) (by kernel_rfl) (seq_nil (wp_seq (wp_seq (rgn (by kernel_rfl) (pu (iv 44) (by kernel_rfl) (seq_c (s_neq rfl rfl (fun _ => ?_) (fun h => absurd (a := 44 = 0) h (by decide)))))))))
  refine seq_nil (wp_condT rfl (wp_seq (rgn (by kernel_rfl) (pu (iv 44) (by kernel_rfl) (pu (iv 44) (by kernel_rfl) (seq_nil (wp_ret ?_)))))))
  replace hF := Option.some.inj hF; subst hF
  exact ⟨iv 44, Ret.r1 rfl rfl, ⟨rfl, hI.below⟩⟩
 ·
  refine seq_c (s_call 64 [.agg #[.slice Ap0_0 lp0_0.length cp0_0, .slice Ap0_1 lp0_1.length cp0_1], .slice Ap1 lp1.length cp1] (by kernel_rfl) (L64 _ Ap0_0 cp0_0 lp0_0 Ap0_1 cp0_1 lp0_1 Ap1 cp1 lp1 (hCp0_0.inv0 hI) hMp0_0 hKp0_0 (hCp0_1.inv0 hI) hMp0_1 hKp0_1 (hCp1.inv0 hI) hMp1 hKp1 N _ hy80) ?_)
  rintro v w ⟨b83, es84, ck85, rfl, hN, ho86, hM87⟩
  have hI := hI.join hN; clear hN
  refine pu (.tuple #[.agg #[.slice Ap0_0 lp0_0.length cp0_0, .slice Ap0_1 lp0_1.length cp0_1, .map (some b83), .slice Ap1 lp1.length cp1], iv 0]) (by kernel_rfl) (pu (.agg #[.slice Ap0_0 lp0_0.length cp0_0, .slice Ap0_1 lp0_1.length cp0_1, .map (some b83), .slice Ap1 lp1.length cp1]) (by kernel_rfl) (pu (iv 0) (by kernel_rfl) (seq_c (s_allocI hI [.slice none 0 0, .slice none 0 0, .map none, .slice none 0 0] Try.zeroValue120 rfl ?_))))
  intro b88 w hI
  refine seq_c (s_store hI 0 4 [.slice Ap0_0 lp0_0.length cp0_0, .slice Ap0_1 lp0_1.length cp0_1, .map (some b83), .slice Ap1 lp1.length cp1] Try.sizeOf120 rfl rfl rfl rfl rfl (Nat.le_of_ble_eq_true rfl) ?_)
  intro w hI
  refine pu (iv 0) (by kernel_rfl) (seq_nil (wp_seq (wp_seq (rgn (by kernel_rfl) (pu (iv 0) (by kernel_rfl) (seq_c (s_neq rfl rfl (fun h => absurd (a := 0 = 0) (by decide) h) (fun _ => ?_))))))))
  refine seq_nil (wp_condF rfl (wp_skip (wp_seq (wp_seq (rgn (by kernel_rfl) (seq_c (s_loadK hI 2 2 [iv p3.num, iv p3.den] Try.isAgg51 Try.sizeOf51 rfl rfl rfl rfl ?_)))))))
  refine bindE hF (fun y95 hy96 hF => ?_)
  refine ifE hF (fun h16 hF => ?_) (fun h16 hF => ?_)
  ·
   refine seq_c (s_callv hI 78 [.agg #[iv p3.num, iv p3.den]] (.bool true) (by kernel_rfl) (Does.mono (L78 _ p3 _ hy96) (fun v' w' h => ⟨h.1.trans (congrArg Value.bool h16), h.2⟩)) ?_)
   intro w hI
   refine pu (.bool false) (by kernel_rfl) (seq_nil (wp_condF rfl (wp_skip (wp_seq (wp_seq (rgn (by kernel_rfl) (seq_c (s_loadK hI 0 4 [.slice Ap0_0 lp0_0.length cp0_0, .slice Ap0_1 lp0_1.length cp0_1, .map (some b83), .slice Ap1 lp1.length cp1] Try.isAgg120 Try.sizeOf120 rfl rfl rfl rfl ?_))))))))
   refine seq_c (s_loadK hI 3 2 [iv p2_0, .slice Ap2_1 lp2_1.length cp2_1] Try.isAgg67 Try.sizeOf67 rfl rfl rfl rfl ?_)
   refine bindE hF (fun y109 hy110 hF => ?_)
   refine ifE hF (fun h23 hF => ?_) (fun h23 hF => ?_)
   ·
    refine seq_c (s_callv hI 90 [.agg #[.slice Ap0_0 lp0_0.length cp0_0, .slice Ap0_1 lp0_1.length cp0_1, .map (some b83), .slice Ap1 lp1.length cp1], .agg #[iv p2_0, .slice Ap2_1 lp2_1.length cp2_1]] (.bool true) (by kernel_rfl) (Does.mono (L90 _ Ap0_0 cp0_0 lp0_0 Ap0_1 cp0_1 lp0_1 b83 es84 ck85 y79 Ap1 cp1 lp1 p2_0 Ap2_1 cp2_1 lp2_1 (hCp0_0.inv0 hI) hMp0_0 hKp0_0 (hCp0_1.inv0 hI) hMp0_1 hKp0_1 (hI.has 1 _ _ rfl).1 ho86 hM87 (hCp1.inv0 hI) hMp1 hKp1 (hCp2_1.inv0 hI) hMp2_1 hKp2_1 N _ hy110) (fun v' w' h => ⟨h.1.trans (congrArg Value.bool h23), h.2⟩)) ?_)
    intro w hI
    refine pu (.bool false) (by kernel_rfl) (pu (.bool false) (by kernel_rfl) (seq_on (by kernel_rfl) (s_loadK hI 0 4 [.slice Ap0_0 lp0_0.length cp0_0, .slice Ap0_1 lp0_1.length cp0_1, .map (some b83), .slice Ap1 lp1.length cp1] Try.isAgg120 Try.sizeOf120 rfl rfl rfl rfl ?_)))
    refine seq_on (by kernel_rfl) (s_loadK hI 3 2 [iv p2_0, .slice Ap2_1 lp2_1.length cp2_1] Try.isAgg67 Try.sizeOf67 rfl rfl rfl rfl ?_)
    refine seq_on (by kernel_rfl) (s_loadK hI 2 2 [iv p3.num, iv p3.den] Try.isAgg51 Try.sizeOf51 rfl rfl rfl rfl ?_)
    refine bindE hF (fun y111 hy112 hF => ?_)
    refine ifE hF (fun h24 hF => ?_) (fun h24 hF => ?_)
    ·
     refine seq_on (by kernel_rfl) (s_callv hI 91 [.agg #[.slice Ap0_0 lp0_0.length cp0_0, .slice Ap0_1 lp0_1.length cp0_1, .map (some b83), .slice Ap1 lp1.length cp1], .agg #[iv p2_0, .slice Ap2_1 lp2_1.length cp2_1], .agg #[iv p3.num, iv p3.den]] (.bool true) (by kernel_rfl) (Does.mono (L91 _ Ap0_0 cp0_0 lp0_0 Ap0_1 cp0_1 lp0_1 b83 es84 ck85 y79 Ap1 cp1 lp1 p2_0 Ap2_1 cp2_1 lp2_1 p3 (hCp0_0.inv0 hI) hMp0_0 hKp0_0 (hCp0_1.inv0 hI) hMp0_1 hKp0_1 (hI.has 1 _ _ rfl).1 ho86 hM87 (hCp1.inv0 hI) hMp1 hKp1 (hCp2_1.inv0 hI) hMp2_1 hKp2_1 N _ hy112) (fun v' w' h => ⟨h.1.trans (congrArg Value.bool h24), h.2⟩)) ?_)
     intro w hI
     refine puo (.bool false) ⟨(by kernel_rfl), (by kernel_rfl)⟩ (pu (.bool false) (by kernel_rfl) (seq_nil (wp_condF rfl (wp_skip (wp_seq (rgn (by kernel_rfl) (pu (iv 0) (by kernel_rfl) (seq_nil (wp_ret ?_)))))))))
     replace hF := Option.some.inj hF; subst hF
     exact ⟨iv 0, Ret.r1 rfl rfl, ⟨rfl, hI.below⟩⟩
    ·
     refine seq_on (by kernel_rfl) (s_callv hI 91 [.agg #[.slice Ap0_0 lp0_0.length cp0_0, .slice Ap0_1 lp0_1.length cp0_1, .map (some b83), .slice Ap1 lp1.length cp1], .agg #[iv p2_0, .slice Ap2_1 lp2_1.length cp2_1], .agg #[iv p3.num, iv p3.den]] (.bool false) (by kernel_rfl) (Does.mono (L91 _ Ap0_0 cp0_0 lp0_0 Ap0_1 cp0_1 lp0_1 b83 es84 ck85 y79 Ap1 cp1 lp1 p2_0 Ap2_1 cp2_1 lp2_1 p3 (hCp0_0.inv0 hI) hMp0_0 hKp0_0 (hCp0_1.inv0 hI) hMp0_1 hKp0_1 (hI.has 1 _ _ rfl).1 ho86 hM87 (hCp1.inv0 hI) hMp1 hKp1 (hCp2_1.inv0 hI) hMp2_1 hKp2_1 N _ hy112) (fun v' w' h => ⟨h.1.trans (congrArg Value.bool (Bool.eq_false_iff.2 h24)), h.2⟩)) ?_)
     intro w hI
     refine puo (.bool true) ⟨(by kernel_rfl), (by kernel_rfl)⟩ (pu (.bool true) (by kernel_rfl) (seq_nil (wp_condT rfl (wp_seq (rgn (by kernel_rfl) (pu (iv 49) (by kernel_rfl) (seq_nil (wp_ret ?_))))))))
     replace hF := Option.some.inj hF; subst hF
     exact ⟨iv 49, Ret.r1 rfl rfl, ⟨rfl, hI.below⟩⟩
   ·
    refine seq_c (s_callv hI 90 [.agg #[.slice Ap0_0 lp0_0.length cp0_0, .slice Ap0_1 lp0_1.length cp0_1, .map (some b83), .slice Ap1 lp1.length cp1], .agg #[iv p2_0, .slice Ap2_1 lp2_1.length cp2_1]] (.bool false) (by kernel_rfl) (Does.mono (L90 _ Ap0_0 cp0_0 lp0_0 Ap0_1 cp0_1 lp0_1 b83 es84 ck85 y79 Ap1 cp1 lp1 p2_0 Ap2_1 cp2_1 lp2_1 (hCp0_0.inv0 hI) hMp0_0 hKp0_0 (hCp0_1.inv0 hI) hMp0_1 hKp0_1 (hI.has 1 _ _ rfl).1 ho86 hM87 (hCp1.inv0 hI) hMp1 hKp1 (hCp2_1.inv0 hI) hMp2_1 hKp2_1 N _ hy110) (fun v' w' h => ⟨h.1.trans (congrArg Value.bool (Bool.eq_false_iff.2 h23)), h.2⟩)) ?_)
    intro w hI
    refine pu (.bool true) (by kernel_rfl) (pu (.bool true) (by kernel_rfl) (of_ (by kernel_rfl) (of_ (by kernel_rfl) (of_ (by kernel_rfl) (of_ (by kernel_rfl) (of_ (by kernel_rfl) (pu (.bool true) (by kernel_rfl) (seq_nil (wp_condT rfl ?_)))))))))
    refine wp_seq (rgn (by kernel_rfl) (pu (iv 49) (by kernel_rfl) (seq_nil (wp_ret ?_))))
    replace hF := Option.some.inj hF; subst hF
    exact ⟨iv 49, Ret.r1 rfl rfl, ⟨rfl, hI.below⟩⟩
  ·
   refine seq_c (s_callv hI 78 [.agg #[iv p3.num, iv p3.den]] (.bool false) (by kernel_rfl) (Does.mono (L78 _ p3 _ hy96) (fun v' w' h => ⟨h.1.trans (congrArg Value.bool (Bool.eq_false_iff.2 h16)), h.2⟩)) ?_)
   intro w hI
   refine pu (.bool true) (by kernel_rfl) (seq_nil (wp_condT rfl (wp_seq (rgn (by kernel_rfl) (pu (iv 1) (by kernel_rfl) (seq_nil (wp_ret ?_)))))))
   replace hF := Option.some.inj hF; subst hF
   exact ⟨iv 1, Ret.r1 rfl rfl, ⟨rfl, hI.below⟩⟩


theorem L49 (w0 : World) (Ap0_0 : Option Addr) (cp0_0 : Nat) (lp0_0 : List Ch) (Ap0_1 : Option Addr) (cp0_1 : Nat) (lp0_1 : List Ce) (Ap1 : Option Addr) (cp1 : Nat) (lp1 : List Cl) (hCp0_0 : Cells w0 Ap0_0 (flat eCh lp0_0)) (hMp0_0 : lp0_0.length ≤ 9223372036854775807) (hKp0_0 : lp0_0.length ≤ cp0_0) (hCp0_1 : Cells w0 Ap0_1 (flat eCe lp0_1)) (hMp0_1 : lp0_1.length ≤ 9223372036854775807) (hKp0_1 : lp0_1.length ≤ cp0_1) (hCp1 : Cells w0 Ap1 (flat eCl lp1)) (hMp1 : lp1.length ≤ 9223372036854775807) (hKp1 : lp1.length ≤ cp1) (N : Nat) (r : (List Dr × Int)) (hF : F49 N lp0_0 lp0_1 lp1 = some r) : Does Try.prog 49 [.agg #[.slice Ap0_0 lp0_0.length cp0_0, .slice Ap0_1 lp0_1.length cp0_1], .slice Ap1 lp1.length cp1] w0 fun v w => ∃ (z0 : Option Nat) (z1 : Nat) (z2 : List Value), v = .tuple #[slv z0 r.1.length z1, .int .i64 r.2] ∧ Inv [] w0 w [(z0, blk z2 49)] ∧ Row 2 z0 r.1.length z1 z2 (flat eDr r.1) := by
 refine calls_of (n := 17) Try.func49 rfl Try.ntmps49 rfl ?_
 have hI := Inv.start w0
 unfold F49 at hF
 refine wp_seq (rgn (by kernel_rfl) (seq_c (s_boxI hI [.slice Ap0_0 lp0_0.length cp0_0, .slice Ap0_1 lp0_1.length cp0_1] rfl ?_)))
 intro b24 w hI
 refine pu (.slice none 0 0) (by kernel_rfl) (pu (iv 0) (by kernel_rfl) (seq_nil (wp_seq (rgn (by kernel_rfl) (seq_c (s_loadK hI 0 2 [.slice Ap0_0 lp0_0.length cp0_0, .slice Ap0_1 lp0_1.length cp0_1] Try.isAgg25 Try.sizeOf25 rfl rfl rfl rfl ?_))))))
 refine pu (.slice Ap1 lp1.length cp1) (by kernel_rfl) (bindE hF (fun y36 hy37 hF => ?_))
 refine seq_c (s_call 84 [.agg #[.slice Ap0_0 lp0_0.length cp0_0, .slice Ap0_1 lp0_1.length cp0_1], .slice Ap1 lp1.length cp1] (by kernel_rfl) (L84 _ Ap0_0 cp0_0 lp0_0 Ap0_1 cp0_1 lp0_1 Ap1 cp1 lp1 (hCp0_0.inv0 hI) hMp0_0 hKp0_0 (hCp0_1.inv0 hI) hMp0_1 hKp0_1 (hCp1.inv0 hI) hMp1 hKp1 N _ hy37) ?_)
 rintro v w ⟨g38, c39, cl40, g41, c42, cl43, rfl, hN, r44, r45⟩
 have hI := hI.join hN; clear hN
 refine pu (.tuple #[.agg #[slv g38 y36.1.length c39, iv y36.2.1, iv y36.2.2.1, slv g41 y36.2.2.2.1.length c42], iv y36.2.2.2.2]) (by kernel_rfl) (pu (.agg #[slv g38 y36.1.length c39, iv y36.2.1, iv y36.2.2.1, slv g41 y36.2.2.2.1.length c42]) (by kernel_rfl) (pu (iv y36.2.2.2.2) (by kernel_rfl) (seq_c (s_allocI hI [.slice none 0 0, iv 0, iv 0, .slice none 0 0] Try.zeroValue144 rfl ?_))))
 intro b46 w hI
 refine seq_c (s_store hI 0 4 [slv g38 y36.1.length c39, iv y36.2.1, iv y36.2.2.1, slv g41 y36.2.2.2.1.length c42] Try.sizeOf144 rfl rfl rfl rfl rfl (Nat.le_of_ble_eq_true rfl) ?_)
 intro w hI
 refine pu (iv y36.2.2.2.2) (by kernel_rfl) (seq_nil (wp_seq (rgn (by kernel_rfl) (pu (.pointer (some ⟨b46, 0, none⟩)) (by kernel_rfl) (seq_c (s_load1 hI 0 (slv g38 y36.1.length c39) Try.isAgg63 rfl rfl rfl ?_))))))
 refine pu (iv y36.2.2.2.2) (by kernel_rfl) (pu (slv g38 y36.1.length c39) (by kernel_rfl) (pu (iv y36.2.2.2.2) (by kernel_rfl) (seq_nil (wp_ret ?_))))
 replace hF := Option.some.inj hF; subst hF
 exact ⟨.tuple #[slv g38 y36.1.length c39, iv y36.2.2.2.2], Ret.r2 rfl rfl rfl, ⟨g38, c39, cl40, rfl, hI.pickL [1] (by decide) rfl, r44.to rfl rfl⟩⟩


theorem L89 (w0 : World) (Ap0_0 : Option Addr) (cp0_0 : Nat) (lp0_0 : List Ch) (Ap0_1 : Option Addr) (cp0_1 : Nat) (lp0_1 : List Ce) (bp0_2 : Nat) (esp0_2 : List En) (ckp0_2 : Nat) (Mp0_2 : Int → Option Int) (Ap0_3 : Option Addr) (cp0_3 : Nat) (lp0_3 : List Cl) (p1 : Int) (p2 : Int) (hCp0_0 : Cells w0 Ap0_0 (flat eCh lp0_0)) (hMp0_0 : lp0_0.length ≤ 9223372036854775807) (hKp0_0 : lp0_0.length ≤ cp0_0) (hCp0_1 : Cells w0 Ap0_1 (flat eCe lp0_1)) (hMp0_1 : lp0_1.length ≤ 9223372036854775807) (hKp0_1 : lp0_1.length ≤ cp0_1) (hbp0_2 : w0.heap[bp0_2]? = some (mobj esp0_2 ckp0_2)) (hop0_2 : MOk esp0_2 ckp0_2) (hMp0_2 : ∀ j, mget esp0_2 j = (Mp0_2 j).map (Value.int .i64)) (hCp0_3 : Cells w0 Ap0_3 (flat eCl lp0_3)) (hMp0_3 : lp0_3.length ≤ 9223372036854775807) (hKp0_3 : lp0_3.length ≤ cp0_3) (r : Bool) (hF : F89 lp0_0 lp0_1 Mp0_2 lp0_3 p1 p2 = some r) : Does Try.prog 89 [.agg #[.slice Ap0_0 lp0_0.length cp0_0, .slice Ap0_1 lp0_1.length cp0_1, .map (some bp0_2), .slice Ap0_3 lp0_3.length cp0_3], .int .i64 p1, .int .i64 p2] w0 fun v w => v = .bool r ∧ Below w0.heap.size w0 w := by
 refine calls_of (n := 29) Try.func89 rfl Try.ntmps89 rfl ?_
 have hI := Inv.start w0
 unfold F89 at hF
 refine wp_seq (rgn (by kernel_rfl) (seq_c (s_boxI hI [.slice Ap0_0 lp0_0.length cp0_0, .slice Ap0_1 lp0_1.length cp0_1, .map (some bp0_2), .slice Ap0_3 lp0_3.length cp0_3] rfl ?_)))
 intro b51 w hI
 refine pu (.bool false) (by kernel_rfl) (seq_nil (wp_seq (gdE hF (fun h19 hF => ?_))))
 refine bindE hF (fun x76 hx77 hF => ?_)
 refine gdE hF (fun h20 hF => ?_)
 refine bindE hF (fun x83 hx84 hF => ?_)
 refine ckE hF (fun h21 hF => ?_)
 refine ckE hF (fun h22 hF => ?_)
 refine wp_drawn2 hI [0] (by decide) rfl (by kernel_rfl) (by kernel_rfl) ?_
 intro hsub
 refine alp 0 (.pointer (some ⟨b51, 3, none⟩)) hsub rfl (by kernel_rfl) (fun _ => (by kernel_rfl)) ?_
 refine al_light 1 (.slice Ap0_3 lp0_3.length cp0_3) hsub rfl (by kernel_rfl) (fun w hI => s_load1 hI 0 (.slice Ap0_3 lp0_3.length cp0_3) Try.isAgg26 rfl rfl rfl ⟨rfl, Below.refl _ _⟩) ?_
 refine alp 2 (iv p2) hsub rfl (by kernel_rfl) (fun _ => (by kernel_rfl)) ?_
 obtain ⟨b90, o91, hA92, hb93, he94⟩ := hCp0_3.at_ eCl_len (by decide) hx77
 refine al_light 3 (.pointer (some ⟨b90, o91 + (p2).toNat * 4, none⟩)) hsub rfl (by kernel_rfl) (fun w hI => s_indexA (p2).toNat Try.underlying26 Try.sizeOf34 rfl hA92 rfl (Int.toNat_of_nonneg h19).symm (lt_n hx77 rfl) ⟨rfl, Below.refl _ _⟩) ?_
 refine alp 4 (.pointer (some ⟨b90, o91 + (p2).toNat * 4 + 3, none⟩)) hsub rfl (by kernel_rfl) (fun _ => (by kernel_rfl)) ?_
 refine al_light 5 (iv x76.to) hsub rfl (by kernel_rfl) (fun w hI => s_loadB1 hI (iv x76.to) Try.isAgg3 rfl hb93 (by simp) (he94 3 _ rfl) ⟨rfl, Below.refl _ _⟩) ?_
 refine alp 6 (.pointer (some ⟨b51, 3, none⟩)) hsub rfl (by kernel_rfl) (fun _ => (by kernel_rfl)) ?_
 refine al_light 7 (.slice Ap0_3 lp0_3.length cp0_3) hsub rfl (by kernel_rfl) (fun w hI => s_load1 hI 0 (.slice Ap0_3 lp0_3.length cp0_3) Try.isAgg26 rfl rfl rfl ⟨rfl, Below.refl _ _⟩) ?_
 refine alp 8 (iv p1) hsub rfl (by kernel_rfl) (fun _ => (by kernel_rfl)) ?_
 obtain ⟨b95, o96, hA97, hb98, he99⟩ := hCp0_3.at_ eCl_len (by decide) hx84
 refine al_light 9 (.pointer (some ⟨b95, o96 + (p1).toNat * 4, none⟩)) hsub rfl (by kernel_rfl) (fun w hI => s_indexA (p1).toNat Try.underlying26 Try.sizeOf34 rfl hA97 rfl (Int.toNat_of_nonneg h20).symm (lt_n hx84 rfl) ⟨rfl, Below.refl _ _⟩) ?_
 refine alp 10 (.pointer (some ⟨b95, o96 + (p1).toNat * 4 + 2, none⟩)) hsub rfl (by kernel_rfl) (fun _ => (by kernel_rfl)) ?_
 refine al_light 11 (iv x83.fr) hsub rfl (by kernel_rfl) (fun w hI => s_loadB1 hI (iv x83.fr) Try.isAgg3 rfl hb98 (by simp) (he99 2 _ rfl) ⟨rfl, Below.refl _ _⟩) ?_
 refine al_light 12 (iv (x76.to - x83.fr)) hsub rfl (by kernel_rfl) (fun w hI => s_sub rfl rfl h21 ⟨rfl, Below.refl _ _⟩) ?_
 refine al_light 13 (iv ((x76.to - x83.fr) + 1)) hsub rfl (by kernel_rfl) (fun w hI => s_add rfl rfl h22 ⟨rfl, Below.refl _ _⟩) ?_
 refine alp 14 (iv ((x76.to - x83.fr) + 1)) hsub rfl (by kernel_rfl) (fun _ => (by kernel_rfl)) ?_
 refine any_end (by kernel_rfl) (fun w hI => ?_)
 refine wp_seq (rgn (by kernel_rfl) (pu (iv ((x76.to - x83.fr) + 1)) (by kernel_rfl) (pu (iv (if ((x76.to - x83.fr) + 1) > 0 then ((x76.to - x83.fr) + 1) else 0)) (by kernel_rfl) (pu (iv p2) (by kernel_rfl) (pu (iv p1) (by kernel_rfl) (ckE hF (fun h26 hF => ?_)))))))
 refine seq_c (s_sub rfl rfl h26 ?_)
 refine ckE hF (fun h27 hF => ?_)
 refine seq_c (s_add rfl rfl h27 ?_)
 refine ifE hF (fun h28 hF => ?_) (fun h28 hF => ?_)
 ·
  refine seq_c (s_lss rfl rfl (fun _ => ?_) (fun h => absurd (a := (if ((x76.to - x83.fr) + 1) > 0 then ((x76.to - x83.fr) + 1) else 0) < ((p2 - p1) + 1)) h28 h))
  refine pu (.bool true) (by kernel_rfl) (seq_nil (wp_ret ?_))
  replace hF := Option.some.inj hF; subst hF
  exact ⟨.bool true, Ret.r1 rfl rfl, ⟨rfl, hI.below⟩⟩
 ·
  refine seq_c (s_lss rfl rfl (fun h => absurd (a := (if ((x76.to - x83.fr) + 1) > 0 then ((x76.to - x83.fr) + 1) else 0) < ((p2 - p1) + 1)) h h28) (fun _ => ?_))
  refine pu (.bool false) (by kernel_rfl) (seq_nil (wp_ret ?_))
  replace hF := Option.some.inj hF; subst hF
  exact ⟨.bool false, Ret.r1 rfl rfl, ⟨rfl, hI.below⟩⟩


theorem L51 (w0 : World) (Ap0_0 : Option Addr) (cp0_0 : Nat) (lp0_0 : List Ch) (Ap0_1 : Option Addr) (cp0_1 : Nat) (lp0_1 : List Ce) (Ap1 : Option Addr) (cp1 : Nat) (lp1 : List Cl) (hCp0_0 : Cells w0 Ap0_0 (flat eCh lp0_0)) (hMp0_0 : lp0_0.length ≤ 9223372036854775807) (hKp0_0 : lp0_0.length ≤ cp0_0) (hCp0_1 : Cells w0 Ap0_1 (flat eCe lp0_1)) (hMp0_1 : lp0_1.length ≤ 9223372036854775807) (hKp0_1 : lp0_1.length ≤ cp0_1) (hCp1 : Cells w0 Ap1 (flat eCl lp1)) (hMp1 : lp1.length ≤ 9223372036854775807) (hKp1 : lp1.length ≤ cp1) (N : Nat) (r : (Int × Int × Int)) (hF : F51 N lp0_0 lp0_1 lp1 = some r) : Does Try.prog 51 [.agg #[.slice Ap0_0 lp0_0.length cp0_0, .slice Ap0_1 lp0_1.length cp0_1], .slice Ap1 lp1.length cp1] w0 fun v w => v = .tuple #[.agg #[.int .i64 r.1, .int .i64 r.2.1], .int .i64 r.2.2] ∧ Below w0.heap.size w0 w := by
 refine calls_of (n := 41) Try.func51 rfl Try.ntmps51 rfl ?_
 have hI := Inv.start w0
 unfold F51 at hF
 refine wp_seq (rgn (by kernel_rfl) (seq_c (s_boxI hI [.slice Ap0_0 lp0_0.length cp0_0, .slice Ap0_1 lp0_1.length cp0_1] rfl ?_)))
 intro b348 w hI
 refine seq_c (s_allocI hI [iv 0, iv 0] Try.zeroValue65 rfl ?_)
 intro b349 w hI
 refine pu (iv 0) (by kernel_rfl) (seq_nil (wp_seq (rgn (by kernel_rfl) (seq_c (s_loadK hI 1 2 [.slice Ap0_0 lp0_0.length cp0_0, .slice Ap0_1 lp0_1.length cp0_1] Try.isAgg25 Try.sizeOf25 rfl rfl rfl rfl ?_)))))
 refine pu (.slice Ap1 lp1.length cp1) (by kernel_rfl) (bindS3E hF (fun y365 hy366 hF => ?_) (fun y367 hy368 hF => ?_) (fun y369 hy370 hF => ?_))
 ·
  refine seq_c (s_callv hI 64 [.agg #[.slice Ap0_0 lp0_0.length cp0_0, .slice Ap0_1 lp0_1.length cp0_1], .slice Ap1 lp1.length cp1] (.tuple #[.agg #[.slice none 0 0, .slice none 0 0, .map none, .slice none 0 0], iv 42]) (by kernel_rfl) (L64 _ Ap0_0 cp0_0 lp0_0 Ap0_1 cp0_1 lp0_1 Ap1 cp1 lp1 (hCp0_0.inv0 hI) hMp0_0 hKp0_0 (hCp0_1.inv0 hI) hMp0_1 hKp0_1 (hCp1.inv0 hI) hMp1 hKp1 N _ hy366) ?_)
  intro w hI
  refine pu (.tuple #[.agg #[.slice none 0 0, .slice none 0 0, .map none, .slice none 0 0], iv 42]) (by kernel_rfl) (pu (.agg #[.slice none 0 0, .slice none 0 0, .map none, .slice none 0 0]) (by kernel_rfl) (pu (iv 42) (by kernel_rfl) (seq_c (s_allocI hI [.slice none 0 0, .slice none 0 0, .map none, .slice none 0 0] Try.zeroValue120 rfl ?_))))
  intro b371 w hI
  refine seq_c (s_store hI 0 4 [.slice none 0 0, .slice none 0 0, .map none, .slice none 0 0] Try.sizeOf120 rfl rfl rfl rfl rfl (Nat.le_of_ble_eq_true rfl) ?_)
  intro w hI
  refine pu (iv 42) (by kernel_rfl) (seq_nil (wp_seq (wp_seq (rgn (by kernel_rfl) (pu (iv 42) (by kernel_rfl) (seq_c (s_neq rfl rfl (fun _ => ?_) (fun h => absurd (a := 42 = 0) h (by decide)))))))))
  refine seq_nil (wp_condT rfl (wp_seq (rgn (by kernel_rfl) (pu (.agg #[iv 0, iv 0]) (by kernel_rfl) (pu (iv 42) (by kernel_rfl) (seq_c (s_store hI 1 2 [iv 0, iv 0] Try.sizeOf65 rfl rfl rfl rfl rfl (Nat.le_of_ble_eq_true rfl) ?_)))))))
  intro w hI
  refine pu (iv 42) (by kernel_rfl) (seq_nil (wp_ret ?_))
  replace hF := Option.some.inj hF; subst hF
  exact ⟨.tuple #[.agg #[iv 0, iv 0], iv 42], Ret.ct rfl rfl (run_loadK hI 1 2 [iv 0, iv 0] Try.isAgg65 Try.sizeOf65 rfl rfl rfl) rfl, ⟨rfl, hI.below⟩⟩
 ·
  refine seq_c (s_callv hI 64 [.agg #[.slice Ap0_0 lp0_0.length cp0_0, .slice Ap0_1 lp0_1.length cp0_1], .slice Ap1 lp1.length cp1] (.tuple #[.agg #[.slice none 0 0, .slice none 0 0, .map none, .slice none 0 0], iv 44]) (by kernel_rfl) (L64 _ Ap0_0 cp0_0 lp0_0 Ap0_1 cp0_1 lp0_1 Ap1 cp1 lp1 (hCp0_0.inv0 hI) hMp0_0 hKp0_0 (hCp0_1.inv0 hI) hMp0_1 hKp0_1 (hCp1.inv0 hI) hMp1 hKp1 N _ hy368) ?_)
  intro w hI
  refine pu (.tuple #[.agg #[.slice none 0 0, .slice none 0 0, .map none, .slice none 0 0], iv 44]) (by kernel_rfl) (pu (.agg #[.slice none 0 0, .slice none 0 0, .map none, .slice none 0 0]) (by kernel_rfl) (pu (iv 44) (by kernel_rfl) (seq_c (s_allocI hI [.slice none 0 0, .slice none 0 0, .map none, .slice none 0 0] Try.zeroValue120 rfl ?_))))
  intro b372 w hI
  refine seq_c (s_store hI 0 4 [.slice none 0 0, .slice none 0 0, .map none, .slice none 0 0] Try.sizeOf120 rfl rfl rfl rfl rfl (Nat.le_of_ble_eq_true rfl) ?_)
  intro w hI
  refine pu (iv 44) (by kernel_rfl) (seq_nil (wp_seq (wp_seq (rgn (by kernel_rfl) (pu (iv 44) (by kernel_rfl) (seq_c (s_neq rfl rfl (fun _ => ?_) (fun h => absurd (a := 44 = 0) h (by decide)))))))))
  refine seq_nil (wp_condT rfl (wp_seq (rgn (by kernel_rfl) (pu (.agg #[iv 0, iv 0]) (by kernel_rfl) (pu (iv 44) (by kernel_rfl) (seq_c (s_store hI 1 2 [iv 0, iv 0] Try.sizeOf65 rfl rfl rfl rfl rfl (Nat.le_of_ble_eq_true rfl) ?_)))))))
  intro w hI
  refine pu (iv 44) (by kernel_rfl) (seq_nil (wp_ret ?_))
  replace hF := Option.some.inj hF; subst hF
  exact ⟨.tuple #[.agg #[iv 0, iv 0], iv 44], Ret.ct rfl rfl (run_loadK hI 1 2 [iv 0, iv 0] Try.isAgg65 Try.sizeOf65 rfl rfl rfl) rfl, ⟨rfl, hI.below⟩⟩
 ·
  refine seq_c (s_call 64 [.agg #[.slice Ap0_0 lp0_0.length cp0_0, .slice Ap0_1 lp0_1.length cp0_1], .slice Ap1 lp1.length cp1] (by kernel_rfl) (L64 _ Ap0_0 cp0_0 lp0_0 Ap0_1 cp0_1 lp0_1 Ap1 cp1 lp1 (hCp0_0.inv0 hI) hMp0_0 hKp0_0 (hCp0_1.inv0 hI) hMp0_1 hKp0_1 (hCp1.inv0 hI) hMp1 hKp1 N _ hy370) ?_)
  rintro v w ⟨b373, es374, ck375, rfl, hN, ho376, hM377⟩
  have hI := hI.join hN; clear hN
  refine pu (.tuple #[.agg #[.slice Ap0_0 lp0_0.length cp0_0, .slice Ap0_1 lp0_1.length cp0_1, .map (some b373), .slice Ap1 lp1.length cp1], iv 0]) (by kernel_rfl) (pu (.agg #[.slice Ap0_0 lp0_0.length cp0_0, .slice Ap0_1 lp0_1.length cp0_1, .map (some b373), .slice Ap1 lp1.length cp1]) (by kernel_rfl) (pu (iv 0) (by kernel_rfl) (seq_c (s_allocI hI [.slice none 0 0, .slice none 0 0, .map none, .slice none 0 0] Try.zeroValue120 rfl ?_))))
  intro b378 w hI
  refine seq_c (s_store hI 0 4 [.slice Ap0_0 lp0_0.length cp0_0, .slice Ap0_1 lp0_1.length cp0_1, .map (some b373), .slice Ap1 lp1.length cp1] Try.sizeOf120 rfl rfl rfl rfl rfl (Nat.le_of_ble_eq_true rfl) ?_)
  intro w hI
  refine pu (iv 0) (by kernel_rfl) (seq_nil (wp_seq (wp_seq (rgn (by kernel_rfl) (pu (iv 0) (by kernel_rfl) (seq_c (s_neq rfl rfl (fun h => absurd (a := 0 = 0) (by decide) h) (fun _ => ?_))))))))
  refine seq_nil (wp_condF rfl (wp_skip (wp_seq (wp_seq (rgn (by kernel_rfl) (pu (.slice Ap1 lp1.length cp1) (by kernel_rfl) (pu (iv ((lp1.length : Nat) : Int)) (by kernel_rfl) (pu (iv 0) (by kernel_rfl) (seq_nil ?_)))))))))
  refine wp_block ?_
  refine wp_loop (fun m ρ w => ∃ (v642 : Int) (mm : Nat), Agree ρ [(1, .slice Ap1 lp1.length cp1), (4, .pointer (some ⟨b349, 0, none⟩)), (6, .pointer (some ⟨b378, 0, none⟩)), (21, iv (lp1.length : Int)), (22, iv v642)] ∧ Inv [] w0 w [(some b349, blk [iv 0, iv 0] 65), (some b378, blk [.slice Ap0_0 lp0_0.length cp0_0, .slice Ap0_1 lp0_1.length cp0_1, .map (some b373), .slice Ap1 lp1.length cp1] 120), (some b373, mobj es374 ck375)] ∧ F51l1 lp0_0 lp0_1 lp1 N y369 mm v642 = some r ∧ mm = m) (m := N) ⟨0, N, ⟨rfl, rfl, rfl, rfl, rfl, trivial⟩, hI.pickL [2, 0, 1] (by decide) rfl, hF, rfl⟩ ?_
  rintro m ρ w ⟨v642, mm, hag, hI, hF, hm⟩
  subst hm; obtain ⟨ρ, rfl⟩ := hag.form; clear hag
  obtain _ | m1 := mm
  ·cases (show (none : Option (Int × Int × Int)) = some r from hF)
  replace hF : F51b1 lp0_0 lp0_1 lp1 N y369 (F51l1 lp0_0 lp0_1 lp1 N y369 m1) v642 = some r := hF; unfold F51b1 at hF
  refine wp_seq (rgn (by kernel_rfl) (ifE hF (fun h529 hF => ?_) (fun h529 hF => ?_)))
  ·
   refine seq_c (s_lss rfl rfl (fun _ => ?_) (fun h => absurd (a := v642 < (lp1.length : Int)) h529 h))
   refine seq_nil (wp_seq (wp_condT rfl (wp_skip (wp_cutO (fun ρ w => Agree ρ [(1, .slice Ap1 lp1.length cp1), (4, .pointer (some ⟨b349, 0, none⟩)), (6, .pointer (some ⟨b378, 0, none⟩)), (21, iv (lp1.length : Int)), (22, iv v642)] ∧ Inv [] w0 w [(some b349, blk [iv 0, iv 0] 65), (some b378, blk [.slice Ap0_0 lp0_0.length cp0_0, .slice Ap0_1 lp0_1.length cp0_1, .map (some b373), .slice Ap1 lp1.length cp1] 120), (some b373, mobj es374 ck375)] ∧ F51j2 (F51l1 lp0_0 lp0_1 lp1 N y369 m1) v642 = some r) ?_ ?_))))
   ·
    refine wp_block ?_
    refine wp_seq (rgn (by kernel_rfl) (pu (iv v642) (by kernel_rfl) (pu (iv v642) (by kernel_rfl) (seq_nil (wp_seq (rgn (by kernel_rfl) (pu (iv v642) (by kernel_rfl) (pu (iv v642) (by kernel_rfl) (seq_nil ?_)))))))))
    refine wp_block ?_
    refine wp_loop (fun m ρ w => ∃ (last_686 : Int) (mm : Nat), Agree ρ [(1, .slice Ap1 lp1.length cp1), (4, .pointer (some ⟨b349, 0, none⟩)), (6, .pointer (some ⟨b378, 0, none⟩)), (8, iv v642), (9, iv last_686), (21, iv (lp1.length : Int)), (22, iv v642)] ∧ Inv [] w0 w [(some b349, blk [iv 0, iv 0] 65), (some b378, blk [.slice Ap0_0 lp0_0.length cp0_0, .slice Ap0_1 lp0_1.length cp0_1, .map (some b373), .slice Ap1 lp1.length cp1] 120), (some b373, mobj es374 ck375)] ∧ F51l3 lp0_0 lp0_1 lp1 (F51l1 lp0_0 lp0_1 lp1 N y369 m1) y369 v642 mm last_686 = some r ∧ mm = m) (m := N) ⟨v642, N, ⟨rfl, rfl, rfl, rfl, rfl, rfl, rfl, trivial⟩, hI.pickL [0, 1, 2] (by decide) rfl, hF, rfl⟩ ?_
    rintro m ρ w ⟨last_686, mm, hag, hI, hF, hm⟩
    subst hm; obtain ⟨ρ, rfl⟩ := hag.form; clear hag
    obtain _ | m3 := mm
    ·cases (show (none : Option (Int × Int × Int)) = some r from hF)
    replace hF : F51b3 lp0_0 lp0_1 lp1 (F51l1 lp0_0 lp0_1 lp1 N y369 m1) y369 v642 (F51l3 lp0_0 lp0_1 lp1 (F51l1 lp0_0 lp0_1 lp1 N y369 m1) y369 v642 m3) last_686 = some r := hF; unfold F51b3 at hF
    refine wp_seq (wp_seq (rgn (by kernel_rfl) (pu (iv last_686) (by kernel_rfl) (pu (.slice Ap1 lp1.length cp1) (by kernel_rfl) (pu (iv ((lp1.length : Nat) : Int)) (by kernel_rfl) (ifE hF (fun h571 hF => ?_) (fun h571 hF => ?_)))))))
    ·
     refine seq_c (s_lss rfl rfl (fun _ => ?_) (fun h => absurd (a := last_686 < (lp1.length : Int)) h571 h))
     refine seq_nil (wp_condT rfl (wp_skip (wp_seq (wp_block ?_))))
     refine wp_seq (rgn (by kernel_rfl) (seq_c (s_loadK hI 1 4 [.slice Ap0_0 lp0_0.length cp0_0, .slice Ap0_1 lp0_1.length cp0_1, .map (some b373), .slice Ap1 lp1.length cp1] Try.isAgg120 Try.sizeOf120 rfl rfl rfl rfl ?_)))
     refine pu (iv v642) (by kernel_rfl) (pu (iv last_686) (by kernel_rfl) (bindE hF (fun y693 hy694 hF => ?_)))
     refine ifE hF (fun h575 hF => ?_) (fun h575 hF => ?_)
     ·
      refine seq_c (s_callv hI 89 [.agg #[.slice Ap0_0 lp0_0.length cp0_0, .slice Ap0_1 lp0_1.length cp0_1, .map (some b373), .slice Ap1 lp1.length cp1], iv v642, iv last_686] (.bool true) (by kernel_rfl) (Does.mono (L89 _ Ap0_0 cp0_0 lp0_0 Ap0_1 cp0_1 lp0_1 b373 es374 ck375 y369 Ap1 cp1 lp1 v642 last_686 (hCp0_0.inv0 hI) hMp0_0 hKp0_0 (hCp0_1.inv0 hI) hMp0_1 hKp0_1 (hI.has 2 _ _ rfl).1 ho376 hM377 (hCp1.inv0 hI) hMp1 hKp1 _ hy694) (fun v' w' h => ⟨h.1.trans (congrArg Value.bool h575), h.2⟩)) ?_)
      intro w hI
      refine seq_nil (wp_condT rfl (wp_seq (rgn (by kernel_rfl) (pu (iv v642) (by kernel_rfl) (pu (iv last_686) (by kernel_rfl) (pu (.agg #[iv v642, iv last_686]) (by kernel_rfl) (seq_c (s_store hI 0 2 [iv v642, iv last_686] Try.sizeOf65 rfl rfl rfl rfl rfl (Nat.le_of_ble_eq_true rfl) ?_))))))))
      intro w hI
      refine pu (iv 0) (by kernel_rfl) (seq_nil (wp_ret ?_))
      replace hF := Option.some.inj hF; subst hF
      exact ⟨.tuple #[.agg #[iv v642, iv last_686], iv 0], Ret.ct rfl rfl (run_loadK hI 0 2 [iv v642, iv last_686] Try.isAgg65 Try.sizeOf65 rfl rfl rfl) rfl, ⟨rfl, hI.below⟩⟩
     ·
      refine seq_c (s_callv hI 89 [.agg #[.slice Ap0_0 lp0_0.length cp0_0, .slice Ap0_1 lp0_1.length cp0_1, .map (some b373), .slice Ap1 lp1.length cp1], iv v642, iv last_686] (.bool false) (by kernel_rfl) (Does.mono (L89 _ Ap0_0 cp0_0 lp0_0 Ap0_1 cp0_1 lp0_1 b373 es374 ck375 y369 Ap1 cp1 lp1 v642 last_686 (hCp0_0.inv0 hI) hMp0_0 hKp0_0 (hCp0_1.inv0 hI) hMp0_1 hKp0_1 (hI.has 2 _ _ rfl).1 ho376 hM377 (hCp1.inv0 hI) hMp1 hKp1 _ hy694) (fun v' w' h => ⟨h.1.trans (congrArg Value.bool (Bool.eq_false_iff.2 h575)), h.2⟩)) ?_)
      intro w hI
      refine seq_nil (wp_condF rfl (wp_skip (rgn (by kernel_rfl) (pu (iv last_686) (by kernel_rfl) (ckE hF (fun h576 hF => ?_))))))
      refine seq_c (s_add rfl rfl h576 ?_)
      refine pu (iv (last_686 + 1)) (by kernel_rfl) (seq_nil ?_)
      exact ⟨rfl, m3, Nat.lt_succ_self _, ⟨last_686 + 1, m3, ⟨rfl, rfl, rfl, rfl, rfl, rfl, rfl, trivial⟩, hI.pickL [0, 1, 2] (by decide) rfl, hF, rfl⟩⟩
    ·
     refine seq_c (s_lss rfl rfl (fun h => absurd (a := last_686 < (lp1.length : Int)) h h571) (fun _ => ?_))
     refine seq_nil (wp_condF rfl (wp_exit ?_))
     exact .inl ⟨rfl, ⟨⟨rfl, rfl, rfl, rfl, rfl, trivial⟩, hI.pickL [0, 1, 2] (by decide) rfl, hF⟩⟩
   ·intro ρ w hJ
    obtain ⟨hag, hI, hF⟩ := hJ
    obtain ⟨ρ, rfl⟩ := hag.form; clear hag
    unfold F51j2 at hF
    refine rgn (by kernel_rfl) (ckE hF (fun h553 hF => ?_))
    refine seq_c (s_add rfl rfl h553 ?_)
    refine pu (iv (v642 + 1)) (by kernel_rfl) (seq_nil ?_)
    exact ⟨rfl, m1, Nat.lt_succ_self _, ⟨v642 + 1, m1, ⟨rfl, rfl, rfl, rfl, rfl, trivial⟩, hI.pickL [0, 1, 2] (by decide) rfl, hF, rfl⟩⟩
  ·
   refine seq_c (s_lss rfl rfl (fun h => absurd (a := v642 < (lp1.length : Int)) h h529) (fun _ => ?_))
   refine seq_nil (wp_seq (wp_condF rfl (wp_exit ?_)))
   refine wp_seq (rgn (by kernel_rfl) (pu (.agg #[iv 0, iv 0]) (by kernel_rfl) (seq_c (s_store hI 0 2 [iv 0, iv 0] Try.sizeOf65 rfl rfl rfl rfl rfl (Nat.le_of_ble_eq_true rfl) ?_))))
   intro w hI
   refine pu (iv 48) (by kernel_rfl) (seq_nil (wp_ret ?_))
   replace hF := Option.some.inj hF; subst hF
   exact ⟨.tuple #[.agg #[iv 0, iv 0], iv 48], Ret.ct rfl rfl (run_loadK hI 0 2 [iv 0, iv 0] Try.isAgg65 Try.sizeOf65 rfl rfl rfl) rfl, ⟨rfl, hI.below⟩⟩


theorem L57 (w0 : World) (r : (List Ch × List Ce)) (hF : F57 = some r) : Does Try.prog 57 [] w0 fun v w => ∃ (z0 : Option Nat) (z1 : Nat) (z2 : List Value) (z3 : Option Nat) (z4 : Nat) (z5 : List Value), v = .agg #[slv z0 r.1.length z1, slv z3 r.2.length z4] ∧ Inv [] w0 w [(z0, blk z2 30), (z3, blk z5 32)] ∧ Row 3 z0 r.1.length z1 z2 (flat eCh r.1) ∧ Row 3 z3 r.2.length z4 z5 (flat eCe r.2) := by
 refine calls_of (n := 13) Try.func57 rfl Try.ntmps57 rfl ?_
 have hI := Inv.start w0
 unfold F57 at hF
 refine wp_seq (rgn (by kernel_rfl) (seq_c (s_allocI hI [.slice none 0 0, .slice none 0 0] Try.zeroValue25 rfl ?_)))
 intro b6 w hI
 refine seq_nil (wp_seq (rgn (by kernel_rfl) (pu (.agg #[iv 98, iv 102]) (by kernel_rfl) (pu (.agg #[iv 1, iv 98, iv 102]) (by kernel_rfl) (pu (.agg #[iv 99, iv 100]) (by kernel_rfl) (pu (.agg #[iv 2, iv 99, iv 100]) (by kernel_rfl) (seq_c (s_new hI [iv 1, iv 98, iv 102, iv 2, iv 99, iv 100] 30 (fun b => slv (some b) 2 2) (by kernel_rfl) ?_))))))))
 intro b7 w hI
 refine pu (.agg #[iv 1, iv 10, iv 6]) (by kernel_rfl) (pu (.agg #[iv 1, iv 5, iv 2]) (by kernel_rfl) (pu (.agg #[iv 2, iv 10, iv 4]) (by kernel_rfl) (pu (.agg #[iv 2, iv 5, iv 9]) (by kernel_rfl) (pu (.agg #[iv 1, iv 10, iv 3]) (by kernel_rfl) (seq_c (s_new hI [iv 1, iv 10, iv 6, iv 1, iv 5, iv 2, iv 2, iv 10, iv 4, iv 2, iv 5, iv 9, iv 1, iv 10, iv 3] 32 (fun b => slv (some b) 5 5) (by kernel_rfl) ?_))))))
 intro b8 w hI
 refine pu (.agg #[.slice (some ⟨b7, 0, none⟩) 2 2, .slice (some ⟨b8, 0, none⟩) 5 5]) (by kernel_rfl) (seq_c (s_store hI 2 2 [.slice (some ⟨b7, 0, none⟩) 2 2, .slice (some ⟨b8, 0, none⟩) 5 5] Try.sizeOf25 rfl rfl rfl rfl rfl (Nat.le_of_ble_eq_true rfl) ?_))
 intro w hI
 refine seq_nil (wp_ret ?_)
 have r9 : Row 3 (some b7) 2 2 [iv 1, iv 98, iv 102, iv 2, iv 99, iv 100] (flat eCh [(⟨1, 98, 102⟩ : Ch), (⟨2, 99, 100⟩ : Ch)]) := Row.lit eCh_len (l := [(⟨1, 98, 102⟩ : Ch), (⟨2, 99, 100⟩ : Ch)]) rfl (Nat.le_of_ble_eq_true rfl)
 have r10 : Row 3 (some b8) 5 5 [iv 1, iv 10, iv 6, iv 1, iv 5, iv 2, iv 2, iv 10, iv 4, iv 2, iv 5, iv 9, iv 1, iv 10, iv 3] (flat eCe [(⟨1, 10, 6⟩ : Ce), (⟨1, 5, 2⟩ : Ce), (⟨2, 10, 4⟩ : Ce), (⟨2, 5, 9⟩ : Ce), (⟨1, 10, 3⟩ : Ce)]) := Row.lit eCe_len (l := [(⟨1, 10, 6⟩ : Ce), (⟨1, 5, 2⟩ : Ce), (⟨2, 10, 4⟩ : Ce), (⟨2, 5, 9⟩ : Ce), (⟨1, 10, 3⟩ : Ce)]) rfl (Nat.le_of_ble_eq_true rfl)
 replace hF := Option.some.inj hF; subst hF
 exact ⟨.agg #[slv (some b7) 2 2, slv (some b8) 5 5], Ret.c rfl rfl (run_loadK hI 2 2 [slv (some b7) 2 2, slv (some b8) 5 5] Try.isAgg25 Try.sizeOf25 rfl rfl rfl), ⟨some b7, 2, [iv 1, iv 98, iv 102, iv 2, iv 99, iv 100], some b8, 5, [iv 1, iv 10, iv 6, iv 1, iv 5, iv 2, iv 2, iv 10, iv 4, iv 2, iv 5, iv 9, iv 1, iv 10, iv 3], rfl, hI.pickL [1, 0] (by decide) rfl, r9.to rfl rfl, r10.to rfl rfl⟩⟩


theorem L58 (w0 : World) (r : List Cl) (hF : F58 = some r) : Does Try.prog 58 [] w0 fun v w => ∃ (z0 : Option Nat) (z1 : Nat) (z2 : List Value), v = slv z0 r.length z1 ∧ Inv [] w0 w [(z0, blk z2 34)] ∧ Row 4 z0 r.length z1 z2 (flat eCl r) := by
 refine calls_of (n := 5) Try.func58 rfl Try.ntmps58 rfl ?_
 have hI := Inv.start w0
 unfold F58 at hF
 refine wp_seq (rgn (by kernel_rfl) (pu (.slice none 0 0) (by kernel_rfl) (seq_nil (wp_seq (rgn (by kernel_rfl) (pu (.agg #[iv 7, iv 2, iv 0, iv 3]) (by kernel_rfl) (pu (.agg #[iv 4, iv 1, iv 1, iv 4]) (by kernel_rfl) (pu (.agg #[iv 9, iv 3, iv 2, iv 4]) (by kernel_rfl) (seq_c (s_new hI [iv 7, iv 2, iv 0, iv 3, iv 4, iv 1, iv 1, iv 4, iv 9, iv 3, iv 2, iv 4] 34 (fun b => slv (some b) 3 3) (by kernel_rfl) ?_))))))))))
 intro b3 w hI
 refine pu (.slice (some ⟨b3, 0, none⟩) 3 3) (by kernel_rfl) (seq_nil (wp_ret ?_))
 have r4 : Row 4 (some b3) 3 3 [iv 7, iv 2, iv 0, iv 3, iv 4, iv 1, iv 1, iv 4, iv 9, iv 3, iv 2, iv 4] (flat eCl [(⟨7, 2, 0, 3⟩ : Cl), (⟨4, 1, 1, 4⟩ : Cl), (⟨9, 3, 2, 4⟩ : Cl)]) := Row.lit eCl_len (l := [(⟨7, 2, 0, 3⟩ : Cl), (⟨4, 1, 1, 4⟩ : Cl), (⟨9, 3, 2, 4⟩ : Cl)]) rfl (Nat.le_of_ble_eq_true rfl)
 replace hF := Option.some.inj hF; subst hF
 exact ⟨slv (some b3) 3 3, Ret.r1 rfl rfl, ⟨some b3, 3, [iv 7, iv 2, iv 0, iv 3, iv 4, iv 1, iv 1, iv 4, iv 9, iv 3, iv 2, iv 4], rfl, hI.pickL [0] (by decide) rfl, r4.to rfl rfl⟩⟩


theorem L11 (w0 : World) (N : Nat) (r : Bool) (hF : F11 N = some r) : Does Try.prog 11 [] w0 fun v w => v = .bool r ∧ Below w0.heap.size w0 w := by
 refine calls_of (n := 202) Try.func11 rfl Try.ntmps11 rfl ?_
 have hI := Inv.start w0
 unfold F11 at hF
 refine wp_seq (rgn (by kernel_rfl) (pu (.bool false) (by kernel_rfl) (seq_nil (wp_seq (rgn (by kernel_rfl) (bindE hF (fun y174 hy175 hF => ?_)))))))
 refine seq_c (s_call 57 [] (by kernel_rfl) (L57 _ _ hy175) ?_)
 rintro v w ⟨g176, c177, cl178, g179, c180, cl181, rfl, hN, r182, r183⟩
 have hI := hI.join hN; clear hN
 refine seq_c (s_allocI hI [.slice none 0 0, .slice none 0 0] Try.zeroValue25 rfl ?_)
 intro b184 w hI
 refine seq_c (s_store hI 0 2 [slv g176 y174.1.length c177, slv g179 y174.2.length c180] Try.sizeOf25 rfl rfl rfl rfl rfl (Nat.le_of_ble_eq_true rfl) ?_)
 intro w hI
 refine seq_nil (wp_seq (rgn (by kernel_rfl) (bindE hF (fun y191 hy192 hF => ?_))))
 refine seq_c (s_call 58 [] (by kernel_rfl) (L58 _ _ hy192) ?_)
 rintro v w ⟨g193, c194, cl195, rfl, hN, r196⟩
 have hI := hI.join hN; clear hN
 refine pu (slv g193 y191.length c194) (by kernel_rfl) (seq_nil (wp_seq (rgn (by kernel_rfl) (seq_c (s_loadK hI 1 2 [slv g176 y174.1.length c177, slv g179 y174.2.length c180] Try.isAgg25 Try.sizeOf25 rfl rfl rfl rfl ?_)))))
 refine pu (.agg #[iv 0, iv 2]) (by kernel_rfl) (bindE hF (fun y200 hy201 hF => ?_))
 refine seq_c (s_callv hI 25 [.agg #[slv g176 y174.1.length c177, slv g179 y174.2.length c180], .agg #[iv 0, iv 2]] (.tuple #[.agg #[iv y200.1, iv y200.2.1], iv y200.2.2]) (by kernel_rfl) (L25 _ (g176.map fun b => ⟨b, 0, none⟩) c177 y174.1 (g179.map fun b => ⟨b, 0, none⟩) c180 y174.2 (⟨0, 2⟩ : Dr) (hI.rowCells 2 rfl r182) (len_le rfl r182.big) (len_le rfl r182.cap) (hI.rowCells 3 rfl r183) (len_le rfl r183.big) (len_le rfl r183.cap) N _ hy201) ?_)
 intro w hI
 refine pu (.tuple #[.agg #[iv y200.1, iv y200.2.1], iv y200.2.2]) (by kernel_rfl) (pu (.agg #[iv y200.1, iv y200.2.1]) (by kernel_rfl) (pu (iv y200.2.2) (by kernel_rfl) (seq_c (s_allocI hI [iv 0, iv 0] Try.zeroValue28 rfl ?_))))
 intro b202 w hI
 refine seq_c (s_store hI 0 2 [iv y200.1, iv y200.2.1] Try.sizeOf28 rfl rfl rfl rfl rfl (Nat.le_of_ble_eq_true rfl) ?_)
 intro w hI
 refine pu (iv y200.2.2) (by kernel_rfl) (seq_nil (wp_seq (rgn (by kernel_rfl) (seq_c (s_loadK hI 2 2 [slv g176 y174.1.length c177, slv g179 y174.2.length c180] Try.isAgg25 Try.sizeOf25 rfl rfl rfl rfl ?_)))))
 refine pu (.agg #[iv 0, iv 0]) (by kernel_rfl) (pu (.agg #[iv 2, iv 2]) (by kernel_rfl) (bindE hF (fun y205 hy206 hF => ?_)))
 refine seq_c (s_callv hI 27 [.agg #[slv g176 y174.1.length c177, slv g179 y174.2.length c180], .agg #[iv 0, iv 0], .agg #[iv 2, iv 2]] (.tuple #[iv y205.1, iv y205.2]) (by kernel_rfl) (L27 _ (g176.map fun b => ⟨b, 0, none⟩) c177 y174.1 (g179.map fun b => ⟨b, 0, none⟩) c180 y174.2 (⟨0, 0⟩ : Dr) (⟨2, 2⟩ : Dr) (hI.rowCells 3 rfl r182) (len_le rfl r182.big) (len_le rfl r182.cap) (hI.rowCells 4 rfl r183) (len_le rfl r183.big) (len_le rfl r183.cap) N _ hy206) ?_)
 intro w hI
 refine pu (.tuple #[iv y205.1, iv y205.2]) (by kernel_rfl) (pu (iv y205.1) (by kernel_rfl) (pu (iv y205.2) (by kernel_rfl) (pu (iv y205.1) (by kernel_rfl) (pu (iv y205.2) (by kernel_rfl) (seq_nil (wp_seq (rgn (by kernel_rfl) (seq_c (s_loadK hI 2 2 [slv g176 y174.1.length c177, slv g179 y174.2.length c180] Try.isAgg25 Try.sizeOf25 rfl rfl rfl rfl ?_)))))))))
 refine pu (.agg #[iv 0, iv 1]) (by kernel_rfl) (pu (.agg #[iv 2, iv 2]) (by kernel_rfl) (bindE hF (fun y209 hy210 hF => ?_)))
 refine seq_c (s_callv hI 27 [.agg #[slv g176 y174.1.length c177, slv g179 y174.2.length c180], .agg #[iv 0, iv 1], .agg #[iv 2, iv 2]] (.tuple #[iv y209.1, iv y209.2]) (by kernel_rfl) (L27 _ (g176.map fun b => ⟨b, 0, none⟩) c177 y174.1 (g179.map fun b => ⟨b, 0, none⟩) c180 y174.2 (⟨0, 1⟩ : Dr) (⟨2, 2⟩ : Dr) (hI.rowCells 3 rfl r182) (len_le rfl r182.big) (len_le rfl r182.cap) (hI.rowCells 4 rfl r183) (len_le rfl r183.big) (len_le rfl r183.cap) N _ hy210) ?_)
 intro w hI
 refine pu (.tuple #[iv y209.1, iv y209.2]) (by kernel_rfl) (pu (iv y209.1) (by kernel_rfl) (pu (iv y209.2) (by kernel_rfl) (pu (iv y209.1) (by kernel_rfl) (pu (iv y209.2) (by kernel_rfl) (seq_nil (wp_seq (rgn (by kernel_rfl) (seq_c (s_loadK hI 2 2 [slv g176 y174.1.length c177, slv g179 y174.2.length c180] Try.isAgg25 Try.sizeOf25 rfl rfl rfl rfl ?_)))))))))
 refine pu (slv g193 y191.length c194) (by kernel_rfl) (bindE hF (fun y214 hy215 hF => ?_))
 refine seq_c (s_callv hI 37 [.agg #[slv g176 y174.1.length c177, slv g179 y174.2.length c180], slv g193 y191.length c194] (.tuple #[.agg #[iv y214.1, iv y214.2.1], iv y214.2.2]) (by kernel_rfl) (L37 _ (g176.map fun b => ⟨b, 0, none⟩) c177 y174.1 (g179.map fun b => ⟨b, 0, none⟩) c180 y174.2 (g193.map fun b => ⟨b, 0, none⟩) c194 y191 (hI.rowCells 3 rfl r182) (len_le rfl r182.big) (len_le rfl r182.cap) (hI.rowCells 4 rfl r183) (len_le rfl r183.big) (len_le rfl r183.cap) (hI.rowCells 1 rfl r196) (len_le rfl r196.big) (len_le rfl r196.cap) N _ hy215) ?_)
 intro w hI
 refine pu (.tuple #[.agg #[iv y214.1, iv y214.2.1], iv y214.2.2]) (by kernel_rfl) (pu (.agg #[iv y214.1, iv y214.2.1]) (by kernel_rfl) (pu (iv y214.2.2) (by kernel_rfl) (seq_c (s_allocI hI [iv 0, iv 0] Try.zeroValue51 rfl ?_))))
 intro b216 w hI
 refine seq_c (s_store hI 0 2 [iv y214.1, iv y214.2.1] Try.sizeOf51 rfl rfl rfl rfl rfl (Nat.le_of_ble_eq_true rfl) ?_)
 intro w hI
 refine pu (iv y214.2.2) (by kernel_rfl) (seq_nil (wp_seq (rgn (by kernel_rfl) (seq_c (s_loadK hI 3 2 [slv g176 y174.1.length c177, slv g179 y174.2.length c180] Try.isAgg25 Try.sizeOf25 rfl rfl rfl rfl ?_)))))
 refine pu (slv g193 y191.length c194) (by kernel_rfl) (bindE hF (fun y223 hy224 hF => ?_))
 refine seq_c (s_call 12 [.agg #[slv g176 y174.1.length c177, slv g179 y174.2.length c180], slv g193 y191.length c194, iv 4] (by kernel_rfl) (L12 _ (g176.map fun b => ⟨b, 0, none⟩) c177 y174.1 (g179.map fun b => ⟨b, 0, none⟩) c180 y174.2 (g193.map fun b => ⟨b, 0, none⟩) c194 y191 4 (hI.rowCells 4 rfl r182) (len_le rfl r182.big) (len_le rfl r182.cap) (hI.rowCells 5 rfl r183) (len_le rfl r183.big) (len_le rfl r183.cap) (hI.rowCells 2 rfl r196) (len_le rfl r196.big) (len_le rfl r196.cap) N _ hy224) ?_)
 rintro v w ⟨g225, c226, cl227, rfl, hN, r228⟩
 have hI := hI.join hN; clear hN
 refine pu (.tuple #[slv g225 y223.1.length c226, iv y223.2]) (by kernel_rfl) (pu (slv g225 y223.1.length c226) (by kernel_rfl) (pu (iv y223.2) (by kernel_rfl) (pu (slv g225 y223.1.length c226) (by kernel_rfl) (pu (iv y223.2) (by kernel_rfl) (seq_nil (wp_seq (rgn (by kernel_rfl) (seq_c (s_loadK hI 4 2 [slv g176 y174.1.length c177, slv g179 y174.2.length c180] Try.isAgg25 Try.sizeOf25 rfl rfl rfl rfl ?_)))))))))
 refine pu (slv g225 y223.1.length c226) (by kernel_rfl) (bindE hF (fun y232 hy233 hF => ?_))
 refine seq_c (s_callv hI 37 [.agg #[slv g176 y174.1.length c177, slv g179 y174.2.length c180], slv g225 y223.1.length c226] (.tuple #[.agg #[iv y232.1, iv y232.2.1], iv y232.2.2]) (by kernel_rfl) (L37 _ (g176.map fun b => ⟨b, 0, none⟩) c177 y174.1 (g179.map fun b => ⟨b, 0, none⟩) c180 y174.2 (g225.map fun b => ⟨b, 0, none⟩) c226 y223.1 (hI.rowCells 5 rfl r182) (len_le rfl r182.big) (len_le rfl r182.cap) (hI.rowCells 6 rfl r183) (len_le rfl r183.big) (len_le rfl r183.cap) (hI.rowCells 0 rfl r228) (len_le rfl r228.big) (len_le rfl r228.cap) N _ hy233) ?_)
 intro w hI
 refine pu (.tuple #[.agg #[iv y232.1, iv y232.2.1], iv y232.2.2]) (by kernel_rfl) (pu (.agg #[iv y232.1, iv y232.2.1]) (by kernel_rfl) (pu (iv y232.2.2) (by kernel_rfl) (seq_c (s_allocI hI [iv 0, iv 0] Try.zeroValue51 rfl ?_))))
 intro b234 w hI
 refine seq_c (s_store hI 0 2 [iv y232.1, iv y232.2.1] Try.sizeOf51 rfl rfl rfl rfl rfl (Nat.le_of_ble_eq_true rfl) ?_)
 intro w hI
 refine pu (iv y232.2.2) (by kernel_rfl) (seq_nil (wp_seq (rgn (by kernel_rfl) (seq_c (s_loadK hI 5 2 [slv g176 y174.1.length c177, slv g179 y174.2.length c180] Try.isAgg25 Try.sizeOf25 rfl rfl rfl rfl ?_)))))
 refine pu (slv g193 y191.length c194) (by kernel_rfl) (bindE hF (fun y241 hy242 hF => ?_))
 refine seq_c (s_call 39 [.agg #[slv g176 y174.1.length c177, slv g179 y174.2.length c180], slv g193 y191.length c194] (by kernel_rfl) (L39 _ (g176.map fun b => ⟨b, 0, none⟩) c177 y174.1 (g179.map fun b => ⟨b, 0, none⟩) c180 y174.2 (g193.map fun b => ⟨b, 0, none⟩) c194 y191 (hI.rowCells 6 rfl r182) (len_le rfl r182.big) (len_le rfl r182.cap) (hI.rowCells 7 rfl r183) (len_le rfl r183.big) (len_le rfl r183.cap) (hI.rowCells 4 rfl r196) (len_le rfl r196.big) (len_le rfl r196.cap) N _ hy242) ?_)
 rintro v w ⟨g243, c244, cl245, rfl, hN, r246⟩
 have hI := hI.join hN; clear hN
 refine pu (.tuple #[slv g243 y241.1.length c244, iv y241.2]) (by kernel_rfl) (pu (slv g243 y241.1.length c244) (by kernel_rfl) (pu (iv y241.2) (by kernel_rfl) (pu (slv g243 y241.1.length c244) (by kernel_rfl) (pu (iv y241.2) (by kernel_rfl) (seq_nil (wp_seq (rgn (by kernel_rfl) (seq_c (s_loadK hI 6 2 [slv g176 y174.1.length c177, slv g179 y174.2.length c180] Try.isAgg25 Try.sizeOf25 rfl rfl rfl rfl ?_)))))))))
 refine pu (slv g193 y191.length c194) (by kernel_rfl) (bindE hF (fun y253 hy254 hF => ?_))
 refine seq_c (s_call 49 [.agg #[slv g176 y174.1.length c177, slv g179 y174.2.length c180], slv g193 y191.length c194] (by kernel_rfl) (L49 _ (g176.map fun b => ⟨b, 0, none⟩) c177 y174.1 (g179.map fun b => ⟨b, 0, none⟩) c180 y174.2 (g193.map fun b => ⟨b, 0, none⟩) c194 y191 (hI.rowCells 7 rfl r182) (len_le rfl r182.big) (len_le rfl r182.cap) (hI.rowCells 8 rfl r183) (len_le rfl r183.big) (len_le rfl r183.cap) (hI.rowCells 5 rfl r196) (len_le rfl r196.big) (len_le rfl r196.cap) N _ hy254) ?_)
 rintro v w ⟨g255, c256, cl257, rfl, hN, r258⟩
 have hI := hI.join hN; clear hN
 refine pu (.tuple #[slv g255 y253.1.length c256, iv y253.2]) (by kernel_rfl) (pu (slv g255 y253.1.length c256) (by kernel_rfl) (pu (iv y253.2) (by kernel_rfl) (pu (slv g255 y253.1.length c256) (by kernel_rfl) (pu (iv y253.2) (by kernel_rfl) (seq_nil (wp_seq (rgn (by kernel_rfl) (pu (.agg #[iv 7, iv 1, iv 2, iv 2]) (by kernel_rfl) (pu (.agg #[iv 4, iv 1, iv 2, iv 2]) (by kernel_rfl) ?_)))))))))
 refine seq_c (s_new hI [iv 7, iv 1, iv 2, iv 2, iv 4, iv 1, iv 2, iv 2] 34 (fun b => slv (some b) 2 2) (by kernel_rfl) ?_)
 intro b259 w hI
 refine pu (.slice (some ⟨b259, 0, none⟩) 2 2) (by kernel_rfl) (seq_nil (wp_seq (rgn (by kernel_rfl) (seq_c (s_loadK hI 8 2 [slv g176 y174.1.length c177, slv g179 y174.2.length c180] Try.isAgg25 Try.sizeOf25 rfl rfl rfl rfl ?_)))))
 refine pu (.slice (some ⟨b259, 0, none⟩) 2 2) (by kernel_rfl) (bindE hF (fun y263 hy264 hF => ?_))
 refine seq_c (s_callv hI 51 [.agg #[slv g176 y174.1.length c177, slv g179 y174.2.length c180], .slice (some ⟨b259, 0, none⟩) 2 2] (.tuple #[.agg #[iv y263.1, iv y263.2.1], iv y263.2.2]) (by kernel_rfl) (L51 _ (g176.map fun b => ⟨b, 0, none⟩) c177 y174.1 (g179.map fun b => ⟨b, 0, none⟩) c180 y174.2 (some ⟨b259, 0, none⟩) 2 [(⟨7, 1, 2, 2⟩ : Cl), (⟨4, 1, 2, 2⟩ : Cl)] (hI.rowCells 9 rfl r182) (len_le rfl r182.big) (len_le rfl r182.cap) (hI.rowCells 10 rfl r183) (len_le rfl r183.big) (len_le rfl r183.cap) (hI.cells 0 (off := 0) rfl (fun j u h => by rw [Nat.zero_add]; exact h)) (Nat.le_of_ble_eq_true rfl) (Nat.le_refl _) N _ hy264) ?_)
 intro w hI
 refine pu (.tuple #[.agg #[iv y263.1, iv y263.2.1], iv y263.2.2]) (by kernel_rfl) (pu (.agg #[iv y263.1, iv y263.2.1]) (by kernel_rfl) (pu (iv y263.2.2) (by kernel_rfl) (seq_c (s_allocI hI [iv 0, iv 0] Try.zeroValue65 rfl ?_))))
 intro b265 w hI
 refine seq_c (s_store hI 0 2 [iv y263.1, iv y263.2.1] Try.sizeOf65 rfl rfl rfl rfl rfl (Nat.le_of_ble_eq_true rfl) ?_)
 intro w hI
 refine pu (iv y263.2.2) (by kernel_rfl) (seq_nil (wp_seq (wp_seq (rgn (by kernel_rfl) (pu (iv y200.2.2) (by kernel_rfl) (ifE hF (fun h102 hF => ?_) (fun h102 hF => ?_)))))))
 ·
  refine seq_c (s_neq rfl rfl (fun h => absurd (a := y200.2.2 = 0) h102 h) (fun _ => ?_))
  refine pu (.bool false) (by kernel_rfl) (puo (iv y205.2) ⟨(by kernel_rfl), (by kernel_rfl)⟩ (ifE hF (fun h103 hF => ?_) (fun h103 hF => ?_)))
  ·
   refine seq_on (by kernel_rfl) (s_neq rfl rfl (fun h => absurd (a := y205.2 = 0) h103 h) (fun _ => ?_))
   refine pu (.bool false) (by kernel_rfl) (pu (.bool false) (by kernel_rfl) (puo (iv y209.2) ⟨(by kernel_rfl), (by kernel_rfl)⟩ (ifE hF (fun h104 hF => ?_) (fun h104 hF => ?_))))
   ·
    refine seq_on (by kernel_rfl) (s_neq rfl rfl (fun h => absurd (a := y209.2 = 0) h104 h) (fun _ => ?_))
    refine pu (.bool false) (by kernel_rfl) (pu (.bool false) (by kernel_rfl) (puo (iv y214.2.2) ⟨(by kernel_rfl), (by kernel_rfl)⟩ (ifE hF (fun h105 hF => ?_) (fun h105 hF => ?_))))
    ·
     refine seq_on (by kernel_rfl) (s_neq rfl rfl (fun h => absurd (a := y214.2.2 = 0) h105 h) (fun _ => ?_))
     refine pu (.bool false) (by kernel_rfl) (pu (.bool false) (by kernel_rfl) (puo (iv y223.2) ⟨(by kernel_rfl), (by kernel_rfl)⟩ (ifE hF (fun h106 hF => ?_) (fun h106 hF => ?_))))
     ·
      refine seq_on (by kernel_rfl) (s_neq rfl rfl (fun h => absurd (a := y223.2 = 0) h106 h) (fun _ => ?_))
      refine pu (.bool false) (by kernel_rfl) (pu (.bool false) (by kernel_rfl) (puo (iv y232.2.2) ⟨(by kernel_rfl), (by kernel_rfl)⟩ (ifE hF (fun h107 hF => ?_) (fun h107 hF => ?_))))
      ·
       refine seq_on (by kernel_rfl) (s_neq rfl rfl (fun h => absurd (a := y232.2.2 = 0) h107 h) (fun _ => ?_))
       refine pu (.bool false) (by kernel_rfl) (pu (.bool false) (by kernel_rfl) (puo (iv y241.2) ⟨(by kernel_rfl), (by kernel_rfl)⟩ (ifE hF (fun h108 hF => ?_) (fun h108 hF => ?_))))
       ·
        refine seq_on (by kernel_rfl) (s_neq rfl rfl (fun h => absurd (a := y241.2 = 0) h108 h) (fun _ => ?_))
        refine pu (.bool false) (by kernel_rfl) (pu (.bool false) (by kernel_rfl) (puo (iv y253.2) ⟨(by kernel_rfl), (by kernel_rfl)⟩ (ifE hF (fun h109 hF => ?_) (fun h109 hF => ?_))))
        ·
         refine seq_on (by kernel_rfl) (s_neq rfl rfl (fun h => absurd (a := y253.2 = 0) h109 h) (fun _ => ?_))
         refine pu (.bool false) (by kernel_rfl) (pu (.bool false) (by kernel_rfl) (puo (iv y263.2.2) ⟨(by kernel_rfl), (by kernel_rfl)⟩ (ifE hF (fun h110 hF => ?_) (fun h110 hF => ?_))))
         ·
          refine seq_on (by kernel_rfl) (s_neq rfl rfl (fun h => absurd (a := y263.2.2 = 0) h110 h) (fun _ => ?_))
          refine pu (.bool false) (by kernel_rfl) (pu (.bool false) (by kernel_rfl) (puo (slv g255 y253.1.length c256) ⟨(by kernel_rfl), (by kernel_rfl)⟩ (puo (iv ((y253.1.length : Nat) : Int)) ⟨(by kernel_rfl), (by kernel_rfl)⟩ (ifE hF (fun h111 hF => ?_) (fun h111 hF => ?_)))))
          ·
           refine seq_on (by kernel_rfl) (s_neq rfl rfl (fun h => absurd (a := (y253.1.length : Int) = 3) h111 h) (fun _ => ?_))
           refine pu (.bool false) (by kernel_rfl) (pu (.bool false) (by kernel_rfl) (puo (slv g225 y223.1.length c226) ⟨(by kernel_rfl), (by kernel_rfl)⟩ (puo (iv ((y223.1.length : Nat) : Int)) ⟨(by kernel_rfl), (by kernel_rfl)⟩ (ifE hF (fun h112 hF => ?_) (fun h112 hF => ?_)))))
           ·
            refine seq_on (by kernel_rfl) (s_neq rfl rfl (fun h => absurd (a := (y223.1.length : Int) = 3) h112 h) (fun _ => ?_))
            refine pu (.bool false) (by kernel_rfl) (seq_nil (wp_condF rfl (wp_skip (wp_seq (rgn (by kernel_rfl) (seq_c (s_new hI [iv 0, iv 2, iv 3, iv 6] 3 (fun b => slv (some b) 4 4) (by kernel_rfl) ?_)))))))
            intro b266 w hI
            refine pu (.agg #[iv 0, .slice (some ⟨b266, 0, none⟩) 4 4]) (by kernel_rfl) (seq_c (s_allocI hI [iv 0, .slice none 0 0] Try.zeroValue67 rfl ?_))
            intro b267 w hI
            refine seq_c (s_store hI 0 2 [iv 0, .slice (some ⟨b266, 0, none⟩) 4 4] Try.sizeOf67 rfl rfl rfl rfl rfl (Nat.le_of_ble_eq_true rfl) ?_)
            intro w hI
            refine seq_nil (wp_cutO (fun ρ w => ∃ (g279 : Option Nat) (c280 : Nat) (cl281 : List Value) (v283 : Bool), Agree ρ [(1, .pointer (some ⟨b184, 0, none⟩)), (2, slv g193 y191.length c194), (9, .pointer (some ⟨b216, 0, none⟩)), (15, slv g243 y241.1.length c244), (17, slv g255 y253.1.length c256), (20, .pointer (some ⟨b265, 0, none⟩)), (22, .pointer (some ⟨b267, 0, none⟩)), (23, .bool v283)] ∧ Inv [] w0 w [(some b184, blk [slv g176 y174.1.length c177, slv g179 y174.2.length c180] 25), (g176, blk cl178 30), (g179, blk cl181 32), (g193, blk cl195 34), (some b216, blk [iv y214.1, iv y214.2.1] 51), (g243, blk cl245 3), (g255, blk cl257 49), (some b265, blk [iv y263.1, iv y263.2.1] 65), (some b267, blk [iv 0, slv g279 ([0, 2, 3, 6].length) c280] 67), (g279, blk cl281 3)] ∧ (Row 1 g279 ([0, 2, 3, 6].length) c280 cl281 (flat eInt [0, 2, 3, 6])) ∧ F11j1 N y174 y191 y214 y241 y253 y263 v283 = some r) ?_ ?_)
            ·
             refine rgn (by kernel_rfl) (seq_c (s_loadK hI 9 2 [iv y200.1, iv y200.2.1] Try.isAgg28 Try.sizeOf28 rfl rfl rfl rfl ?_))
             refine pu (.agg #[iv 2460, iv 2530]) (by kernel_rfl) (ifE hF (fun h131 hF => ?_) (fun h131 hF => ?_))
             ·
              refine seq_c (s_eqlA (b := decide (y200.1 = 2460) && decide (y200.2.1 = 2530)) rfl rfl (by kernel_rfl) (fun w => eq28 _ y200.1 y200.2.1 2460 2530 w) (fun _ => ?_) (fun h => absurd (a := (decide (y200.1 = 2460) && decide (y200.2.1 = 2530)) = true) h131 h))
              refine pu (.bool true) (by kernel_rfl) (puo (iv y205.1) ⟨(by kernel_rfl), (by kernel_rfl)⟩ (ifE hF (fun h132 hF => ?_) (fun h132 hF => ?_)))
              ·
               refine seq_on (by kernel_rfl) (s_eql rfl rfl (fun _ => ?_) (fun h => absurd (a := y205.1 = 2) h132 h))
               refine pu (.bool true) (by kernel_rfl) (pu (.bool true) (by kernel_rfl) (puo (iv y209.1) ⟨(by kernel_rfl), (by kernel_rfl)⟩ (ifE hF (fun h133 hF => ?_) (fun h133 hF => ?_))))
               ·
                refine seq_on (by kernel_rfl) (s_eql rfl rfl (fun _ => ?_) (fun h => absurd (a := y209.1 = 1) h133 h))
                refine pu (.bool true) (by kernel_rfl) (pu (.bool true) (by kernel_rfl) (seq_on (by kernel_rfl) (s_loadK hI 8 2 [iv y214.1, iv y214.2.1] Try.isAgg51 Try.sizeOf51 rfl rfl rfl rfl ?_)))
                refine puo (.agg #[iv 4, iv 1]) ⟨(by kernel_rfl), (by kernel_rfl)⟩ (ifE hF (fun h134 hF => ?_) (fun h134 hF => ?_))
                ·
                 refine seq_on (by kernel_rfl) (s_eqlA (b := decide (y214.1 = 4) && decide (y214.2.1 = 1)) rfl rfl (by kernel_rfl) (fun w => eq51 _ y214.1 y214.2.1 4 1 w) (fun _ => ?_) (fun h => absurd (a := (decide (y214.1 = 4) && decide (y214.2.1 = 1)) = true) h134 h))
                 refine pu (.bool true) (by kernel_rfl) (pu (.bool true) (by kernel_rfl) (puo (slv g225 y223.1.length c226) ⟨(by kernel_rfl), (by kernel_rfl)⟩ (bindE hF (fun x314 hx315 hF => ?_))))
                 obtain ⟨b316, rfl, he317⟩ := r228.at_ eCl_len (by decide) hx315
                 refine seq_on (by kernel_rfl) (s_indexR 0 Try.underlying26 Try.sizeOf34 rfl rfl rfl (lt_n hx315 rfl) ?_)
                 refine puo (.pointer (some ⟨b316, 0 * 4, none⟩)) ⟨(by kernel_rfl), (by kernel_rfl)⟩ (seq_on (by kernel_rfl) (s_loadR1 hI 7 (iv x314.fam) Try.isAgg3 rfl rfl (he317 0 _ rfl) ?_))
                 refine ifE hF (fun h135 hF => ?_) (fun h135 hF => ?_)
                 ·
                  refine seq_on (by kernel_rfl) (s_eql rfl rfl (fun _ => ?_) (fun h => absurd (a := x314.fam = 4) h135 h))
                  refine pu (.bool true) (by kernel_rfl) (pu (.bool true) (by kernel_rfl) (seq_on (by kernel_rfl) (s_loadK hI 6 2 [iv y232.1, iv y232.2.1] Try.isAgg51 Try.sizeOf51 rfl rfl rfl rfl ?_)))
                  refine puo (.agg #[iv 4, iv 3]) ⟨(by kernel_rfl), (by kernel_rfl)⟩ (ifE hF (fun h136 hF => ?_) (fun h136 hF => ?_))
                  ·
                   refine seq_on (by kernel_rfl) (s_eqlA (b := decide (y232.1 = 4) && decide (y232.2.1 = 3)) rfl rfl (by kernel_rfl) (fun w => eq51 _ y232.1 y232.2.1 4 3 w) (fun _ => ?_) (fun h => absurd (a := (decide (y232.1 = 4) && decide (y232.2.1 = 3)) = true) h136 h))
                   refine pu (.bool true) (by kernel_rfl) (pu (.bool true) (by kernel_rfl) (seq_nil ?_))
                   have r318 : Row 1 (some b266) 4 4 [iv 0, iv 2, iv 3, iv 6] (flat eInt [0, 2, 3, 6]) := Row.lit eInt_len (l := [0, 2, 3, 6]) rfl (Nat.le_of_ble_eq_true rfl)
                   exact .inl ⟨rfl, ⟨some b266, 4, [iv 0, iv 2, iv 3, iv 6], true, ⟨rfl, rfl, rfl, rfl, rfl, rfl, rfl, rfl, trivial⟩, hI.pickL [11, 12, 13, 10, 8, 5, 4, 2, 0, 1] (by decide) rfl, (r318.to rfl rfl), hF⟩⟩
                  ·
                   refine seq_on (by kernel_rfl) (s_eqlA (b := decide (y232.1 = 4) && decide (y232.2.1 = 3)) rfl rfl (by kernel_rfl) (fun w => eq51 _ y232.1 y232.2.1 4 3 w) (fun h => absurd (a := (decide (y232.1 = 4) && decide (y232.2.1 = 3)) = true) h h136) (fun _ => ?_))
                   refine pu (.bool false) (by kernel_rfl) (pu (.bool false) (by kernel_rfl) (seq_nil ?_))
                   have r319 : Row 1 (some b266) 4 4 [iv 0, iv 2, iv 3, iv 6] (flat eInt [0, 2, 3, 6]) := Row.lit eInt_len (l := [0, 2, 3, 6]) rfl (Nat.le_of_ble_eq_true rfl)
                   exact .inl ⟨rfl, ⟨some b266, 4, [iv 0, iv 2, iv 3, iv 6], false, ⟨rfl, rfl, rfl, rfl, rfl, rfl, rfl, rfl, trivial⟩, hI.pickL [11, 12, 13, 10, 8, 5, 4, 2, 0, 1] (by decide) rfl, (r319.to rfl rfl), hF⟩⟩
                 ·
                  refine seq_on (by kernel_rfl) (s_eql rfl rfl (fun h => absurd (a := x314.fam = 4) h h135) (fun _ => ?_))
                  refine pu (.bool false) (by kernel_rfl) (pu (.bool false) (by kernel_rfl) (of_ (by kernel_rfl) (of_ (by kernel_rfl) (of_ (by kernel_rfl) (pu (.bool false) (by kernel_rfl) (pu (.bool false) (by kernel_rfl) (seq_nil ?_)))))))
                  have r320 : Row 1 (some b266) 4 4 [iv 0, iv 2, iv 3, iv 6] (flat eInt [0, 2, 3, 6]) := Row.lit eInt_len (l := [0, 2, 3, 6]) rfl (Nat.le_of_ble_eq_true rfl)
                  exact .inl ⟨rfl, ⟨some b266, 4, [iv 0, iv 2, iv 3, iv 6], false, ⟨rfl, rfl, rfl, rfl, rfl, rfl, rfl, rfl, trivial⟩, hI.pickL [11, 12, 13, 10, 8, 5, 4, 2, 0, 1] (by decide) rfl, (r320.to rfl rfl), hF⟩⟩
                ·
                 refine seq_on (by kernel_rfl) (s_eqlA (b := decide (y214.1 = 4) && decide (y214.2.1 = 1)) rfl rfl (by kernel_rfl) (fun w => eq51 _ y214.1 y214.2.1 4 1 w) (fun h => absurd (a := (decide (y214.1 = 4) && decide (y214.2.1 = 1)) = true) h h134) (fun _ => ?_))
                 refine pu (.bool false) (by kernel_rfl) (pu (.bool false) (by kernel_rfl) (of_ (by kernel_rfl) (of_ (by kernel_rfl) (of_ (by kernel_rfl) (of_ (by kernel_rfl) (of_ (by kernel_rfl) (pu (.bool false) (by kernel_rfl) (pu (.bool false) (by kernel_rfl) (of_ (by kernel_rfl) ?_)))))))))
                 refine of_ (by kernel_rfl) (of_ (by kernel_rfl) (pu (.bool false) (by kernel_rfl) (pu (.bool false) (by kernel_rfl) (seq_nil ?_))))
                 have r321 : Row 1 (some b266) 4 4 [iv 0, iv 2, iv 3, iv 6] (flat eInt [0, 2, 3, 6]) := Row.lit eInt_len (l := [0, 2, 3, 6]) rfl (Nat.le_of_ble_eq_true rfl)
                 exact .inl ⟨rfl, ⟨some b266, 4, [iv 0, iv 2, iv 3, iv 6], false, ⟨rfl, rfl, rfl, rfl, rfl, rfl, rfl, rfl, trivial⟩, hI.pickL [11, 12, 13, 10, 8, 5, 4, 2, 0, 1] (by decide) rfl, (r321.to rfl rfl), hF⟩⟩
               ·
                refine seq_on (by kernel_rfl) (s_eql rfl rfl (fun h => absurd (a := y209.1 = 1) h h133) (fun _ => ?_))
                refine pu (.bool false) (by kernel_rfl) (pu (.bool false) (by kernel_rfl) (of_ (by kernel_rfl) (of_ (by kernel_rfl) (of_ (by kernel_rfl) (pu (.bool false) (by kernel_rfl) (pu (.bool false) (by kernel_rfl) (of_ (by kernel_rfl) (of_ (by kernel_rfl) (of_ (by kernel_rfl) ?_)))))))))
                refine of_ (by kernel_rfl) (of_ (by kernel_rfl) (pu (.bool false) (by kernel_rfl) (pu (.bool false) (by kernel_rfl) (of_ (by kernel_rfl) (of_ (by kernel_rfl) (of_ (by kernel_rfl) (pu (.bool false) (by kernel_rfl) (pu (.bool false) (by kernel_rfl) (seq_nil ?_)))))))))
                have r322 : Row 1 (some b266) 4 4 [iv 0, iv 2, iv 3, iv 6] (flat eInt [0, 2, 3, 6]) := Row.lit eInt_len (l := [0, 2, 3, 6]) rfl (Nat.le_of_ble_eq_true rfl)
                exact .inl ⟨rfl, ⟨some b266, 4, [iv 0, iv 2, iv 3, iv 6], false, ⟨rfl, rfl, rfl, rfl, rfl, rfl, rfl, rfl, trivial⟩, hI.pickL [11, 12, 13, 10, 8, 5, 4, 2, 0, 1] (by decide) rfl, (r322.to rfl rfl), hF⟩⟩
              ·
               refine seq_on (by kernel_rfl) (s_eql rfl rfl (fun h => absurd (a := y205.1 = 2) h h132) (fun _ => ?_))
               refine pu (.bool false) (by kernel_rfl) (pu (.bool false) (by kernel_rfl) (of_ (by kernel_rfl) (of_ (by kernel_rfl) (pu (.bool false) (by kernel_rfl) (pu (.bool false) (by kernel_rfl) (of_ (by kernel_rfl) (of_ (by kernel_rfl) (of_ (by kernel_rfl) (pu (.bool false) (by kernel_rfl) ?_)))))))))
               refine pu (.bool false) (by kernel_rfl) (of_ (by kernel_rfl) (of_ (by kernel_rfl) (of_ (by kernel_rfl) (of_ (by kernel_rfl) (of_ (by kernel_rfl) (pu (.bool false) (by kernel_rfl) (pu (.bool false) (by kernel_rfl) (of_ (by kernel_rfl) (of_ (by kernel_rfl) ?_)))))))))
               refine of_ (by kernel_rfl) (pu (.bool false) (by kernel_rfl) (pu (.bool false) (by kernel_rfl) (seq_nil ?_)))
               have r323 : Row 1 (some b266) 4 4 [iv 0, iv 2, iv 3, iv 6] (flat eInt [0, 2, 3, 6]) := Row.lit eInt_len (l := [0, 2, 3, 6]) rfl (Nat.le_of_ble_eq_true rfl)
               exact .inl ⟨rfl, ⟨some b266, 4, [iv 0, iv 2, iv 3, iv 6], false, ⟨rfl, rfl, rfl, rfl, rfl, rfl, rfl, rfl, trivial⟩, hI.pickL [11, 12, 13, 10, 8, 5, 4, 2, 0, 1] (by decide) rfl, (r323.to rfl rfl), hF⟩⟩
             ·
              refine seq_c (s_eqlA (b := decide (y200.1 = 2460) && decide (y200.2.1 = 2530)) rfl rfl (by kernel_rfl) (fun w => eq28 _ y200.1 y200.2.1 2460 2530 w) (fun h => absurd (a := (decide (y200.1 = 2460) && decide (y200.2.1 = 2530)) = true) h h131) (fun _ => ?_))
              refine pu (.bool false) (by kernel_rfl) (of_ (by kernel_rfl) (of_ (by kernel_rfl) (pu (.bool false) (by kernel_rfl) (pu (.bool false) (by kernel_rfl) (of_ (by kernel_rfl) (of_ (by kernel_rfl) (pu (.bool false) (by kernel_rfl) (pu (.bool false) (by kernel_rfl) (of_ (by kernel_rfl) ?_)))))))))
              refine of_ (by kernel_rfl) (of_ (by kernel_rfl) (pu (.bool false) (by kernel_rfl) (pu (.bool false) (by kernel_rfl) (of_ (by kernel_rfl) (of_ (by kernel_rfl) (of_ (by kernel_rfl) (of_ (by kernel_rfl) (of_ (by kernel_rfl) (pu (.bool false) (by kernel_rfl) ?_)))))))))
              refine pu (.bool false) (by kernel_rfl) (of_ (by kernel_rfl) (of_ (by kernel_rfl) (of_ (by kernel_rfl) (pu (.bool false) (by kernel_rfl) (pu (.bool false) (by kernel_rfl) (seq_nil ?_))))))
              have r324 : Row 1 (some b266) 4 4 [iv 0, iv 2, iv 3, iv 6] (flat eInt [0, 2, 3, 6]) := Row.lit eInt_len (l := [0, 2, 3, 6]) rfl (Nat.le_of_ble_eq_true rfl)
              exact .inl ⟨rfl, ⟨some b266, 4, [iv 0, iv 2, iv 3, iv 6], false, ⟨rfl, rfl, rfl, rfl, rfl, rfl, rfl, rfl, trivial⟩, hI.pickL [11, 12, 13, 10, 8, 5, 4, 2, 0, 1] (by decide) rfl, (r324.to rfl rfl), hF⟩⟩
            ·intro ρ w hJ
             obtain ⟨g279, c280, cl281, v283, hag, hI, r282, hF⟩ := hJ
             obtain ⟨ρ, rfl⟩ := hag.form; clear hag
             unfold F11j1 at hF
             refine wp_cutO (fun ρ w => ∃ (v294 : Bool), Agree ρ [(1, .pointer (some ⟨b184, 0, none⟩)), (2, slv g193 y191.length c194), (9, .pointer (some ⟨b216, 0, none⟩)), (22, .pointer (some ⟨b267, 0, none⟩)), (23, .bool v283), (24, .bool v294)] ∧ Inv [] w0 w [(some b184, blk [slv g176 y174.1.length c177, slv g179 y174.2.length c180] 25), (g176, blk cl178 30), (g179, blk cl181 32), (g193, blk cl195 34), (some b216, blk [iv y214.1, iv y214.2.1] 51), (some b267, blk [iv 0, slv g279 ([0, 2, 3, 6].length) c280] 67), (g279, blk cl281 3)] ∧ F11j2 N y174 y191 y214 v283 v294 = some r) ?_ ?_
             ·
              refine rgn (by kernel_rfl) (pu (slv g243 y241.1.length c244) (by kernel_rfl) (seq_c (s_new hI [iv 9] 3 (fun b => slv (some b) 1 1) (by kernel_rfl) ?_)))
              intro b304 w hI
              refine bindE hF (fun y305 hy306 hF => ?_)
              refine ifE hF (fun h127 hF => ?_) (fun h127 hF => ?_)
              ·
               refine seq_c (s_callv hI 42 [slv g243 y241.1.length c244, .slice (some ⟨b304, 0, none⟩) 1 1] (.bool true) (by kernel_rfl) (Does.mono (L42 _ (g243.map fun b => ⟨b, 0, none⟩) c244 y241.1 (some ⟨b304, 0, none⟩) 1 [9] (hI.rowCells 6 rfl r246) (len_le rfl r246.big) (len_le rfl r246.cap) (hI.cells 0 (off := 0) rfl (fun j u h => by rw [Nat.zero_add]; exact h)) (Nat.le_of_ble_eq_true rfl) (Nat.le_refl _) N _ hy306) (fun v' w' h => ⟨h.1.trans (congrArg Value.bool h127), h.2⟩)) ?_)
               intro w hI
               refine pu (.bool true) (by kernel_rfl) (puo (slv g255 y253.1.length c256) ⟨(by kernel_rfl), (by kernel_rfl)⟩ (bindE hF (fun x307 hx308 hF => ?_)))
               obtain ⟨b309, rfl, he310⟩ := r258.at_ eDr_len (by decide) hx308
               refine seq_on (by kernel_rfl) (s_indexR 0 Try.underlying63 Try.sizeOf49 rfl rfl rfl (lt_n hx308 rfl) ?_)
               refine seq_on (by kernel_rfl) (s_loadRK hI 7 [iv x307.fr, iv x307.to] Try.isAgg49 Try.sizeOf49 rfl rfl rfl he310 ?_)
               refine puo (.agg #[iv 0, iv 1]) ⟨(by kernel_rfl), (by kernel_rfl)⟩ (ifE hF (fun h128 hF => ?_) (fun h128 hF => ?_))
               ·
                refine seq_on (by kernel_rfl) (s_eqlA (b := decide (x307.fr = 0) && decide (x307.to = 1)) rfl rfl (by kernel_rfl) (fun w => eq49 _ x307.fr x307.to 0 1 w) (fun _ => ?_) (fun h => absurd (a := (decide (x307.fr = 0) && decide (x307.to = 1)) = true) h128 h))
                refine pu (.bool true) (by kernel_rfl) (pu (.bool true) (by kernel_rfl) (puo (slv (some b309) y253.1.length c256) ⟨(by kernel_rfl), (by kernel_rfl)⟩ (bindE hF (fun x311 hx312 hF => ?_))))
                have he313 := r258.atS eDr_len (by decide) hx312
                refine seq_on (by kernel_rfl) (s_indexR 2 Try.underlying63 Try.sizeOf49 rfl rfl rfl (lt_n hx312 rfl) ?_)
                refine seq_on (by kernel_rfl) (s_loadRK hI 7 [iv x311.fr, iv x311.to] Try.isAgg49 Try.sizeOf49 rfl rfl rfl he313 ?_)
                refine puo (.agg #[iv 3, iv 4]) ⟨(by kernel_rfl), (by kernel_rfl)⟩ (ifE hF (fun h129 hF => ?_) (fun h129 hF => ?_))
                ·
                 refine seq_on (by kernel_rfl) (s_eqlA (b := decide (x311.fr = 3) && decide (x311.to = 4)) rfl rfl (by kernel_rfl) (fun w => eq49 _ x311.fr x311.to 3 4 w) (fun _ => ?_) (fun h => absurd (a := (decide (x311.fr = 3) && decide (x311.to = 4)) = true) h129 h))
                 refine pu (.bool true) (by kernel_rfl) (pu (.bool true) (by kernel_rfl) (seq_on (by kernel_rfl) (s_loadK hI 8 2 [iv y263.1, iv y263.2.1] Try.isAgg65 Try.sizeOf65 rfl rfl rfl rfl ?_)))
                 refine puo (.agg #[iv 0, iv 1]) ⟨(by kernel_rfl), (by kernel_rfl)⟩ (ifE hF (fun h130 hF => ?_) (fun h130 hF => ?_))
                 ·
                  refine seq_on (by kernel_rfl) (s_eqlA (b := decide (y263.1 = 0) && decide (y263.2.1 = 1)) rfl rfl (by kernel_rfl) (fun w => eq65 _ y263.1 y263.2.1 0 1 w) (fun _ => ?_) (fun h => absurd (a := (decide (y263.1 = 0) && decide (y263.2.1 = 1)) = true) h130 h))
                  refine pu (.bool true) (by kernel_rfl) (pu (.bool true) (by kernel_rfl) (seq_nil ?_))
                  exact .inl ⟨rfl, ⟨true, ⟨rfl, rfl, rfl, rfl, rfl, rfl, trivial⟩, hI.pickL [1, 2, 3, 4, 5, 9, 10] (by decide) rfl, hF⟩⟩
                 ·
                  refine seq_on (by kernel_rfl) (s_eqlA (b := decide (y263.1 = 0) && decide (y263.2.1 = 1)) rfl rfl (by kernel_rfl) (fun w => eq65 _ y263.1 y263.2.1 0 1 w) (fun h => absurd (a := (decide (y263.1 = 0) && decide (y263.2.1 = 1)) = true) h h130) (fun _ => ?_))
                  refine pu (.bool false) (by kernel_rfl) (pu (.bool false) (by kernel_rfl) (seq_nil ?_))
                  exact .inl ⟨rfl, ⟨false, ⟨rfl, rfl, rfl, rfl, rfl, rfl, trivial⟩, hI.pickL [1, 2, 3, 4, 5, 9, 10] (by decide) rfl, hF⟩⟩
                ·
                 refine seq_on (by kernel_rfl) (s_eqlA (b := decide (x311.fr = 3) && decide (x311.to = 4)) rfl rfl (by kernel_rfl) (fun w => eq49 _ x311.fr x311.to 3 4 w) (fun h => absurd (a := (decide (x311.fr = 3) && decide (x311.to = 4)) = true) h h129) (fun _ => ?_))
                 refine pu (.bool false) (by kernel_rfl) (pu (.bool false) (by kernel_rfl) (of_ (by kernel_rfl) (of_ (by kernel_rfl) (of_ (by kernel_rfl) (pu (.bool false) (by kernel_rfl) (pu (.bool false) (by kernel_rfl) (seq_nil ?_)))))))
                 exact .inl ⟨rfl, ⟨false, ⟨rfl, rfl, rfl, rfl, rfl, rfl, trivial⟩, hI.pickL [1, 2, 3, 4, 5, 9, 10] (by decide) rfl, hF⟩⟩
               ·
                refine seq_on (by kernel_rfl) (s_eqlA (b := decide (x307.fr = 0) && decide (x307.to = 1)) rfl rfl (by kernel_rfl) (fun w => eq49 _ x307.fr x307.to 0 1 w) (fun h => absurd (a := (decide (x307.fr = 0) && decide (x307.to = 1)) = true) h h128) (fun _ => ?_))
                refine pu (.bool false) (by kernel_rfl) (pu (.bool false) (by kernel_rfl) (of_ (by kernel_rfl) (of_ (by kernel_rfl) (of_ (by kernel_rfl) (of_ (by kernel_rfl) (of_ (by kernel_rfl) (pu (.bool false) (by kernel_rfl) (pu (.bool false) (by kernel_rfl) (of_ (by kernel_rfl) ?_)))))))))
                refine of_ (by kernel_rfl) (of_ (by kernel_rfl) (pu (.bool false) (by kernel_rfl) (pu (.bool false) (by kernel_rfl) (seq_nil ?_))))
                exact .inl ⟨rfl, ⟨false, ⟨rfl, rfl, rfl, rfl, rfl, rfl, trivial⟩, hI.pickL [1, 2, 3, 4, 5, 9, 10] (by decide) rfl, hF⟩⟩
              ·
               refine seq_c (s_callv hI 42 [slv g243 y241.1.length c244, .slice (some ⟨b304, 0, none⟩) 1 1] (.bool false) (by kernel_rfl) (Does.mono (L42 _ (g243.map fun b => ⟨b, 0, none⟩) c244 y241.1 (some ⟨b304, 0, none⟩) 1 [9] (hI.rowCells 6 rfl r246) (len_le rfl r246.big) (len_le rfl r246.cap) (hI.cells 0 (off := 0) rfl (fun j u h => by rw [Nat.zero_add]; exact h)) (Nat.le_of_ble_eq_true rfl) (Nat.le_refl _) N _ hy306) (fun v' w' h => ⟨h.1.trans (congrArg Value.bool (Bool.eq_false_iff.2 h127)), h.2⟩)) ?_)
               intro w hI
               refine pu (.bool false) (by kernel_rfl) (of_ (by kernel_rfl) (of_ (by kernel_rfl) (of_ (by kernel_rfl) (of_ (by kernel_rfl) (of_ (by kernel_rfl) (pu (.bool false) (by kernel_rfl) (pu (.bool false) (by kernel_rfl) (of_ (by kernel_rfl) (of_ (by kernel_rfl) ?_)))))))))
               refine of_ (by kernel_rfl) (of_ (by kernel_rfl) (of_ (by kernel_rfl) (pu (.bool false) (by kernel_rfl) (pu (.bool false) (by kernel_rfl) (of_ (by kernel_rfl) (of_ (by kernel_rfl) (of_ (by kernel_rfl) (pu (.bool false) (by kernel_rfl) (pu (.bool false) (by kernel_rfl) ?_)))))))))
               refine seq_nil ?_
               exact .inl ⟨rfl, ⟨false, ⟨rfl, rfl, rfl, rfl, rfl, rfl, trivial⟩, hI.pickL [1, 2, 3, 4, 5, 9, 10] (by decide) rfl, hF⟩⟩
             ·intro ρ w hJ
              obtain ⟨v294, hag, hI, hF⟩ := hJ
              obtain ⟨ρ, rfl⟩ := hag.form; clear hag
              unfold F11j2 at hF
              refine wp_seq ?_
              have hG := hF; rcases Bool.eq_false_or_eq_true v283 with rfl | rfl
              ·
               have hF := hG; clear hG
               refine ifE hF (fun _ hF => ?_) (fun h => absurd rfl h)
               have hG := hF; rcases Bool.eq_false_or_eq_true v294 with rfl | rfl
               ·
                have hF := hG; clear hG
                refine ifE hF (fun _ hF => ?_) (fun h => absurd rfl h)
                refine rgn (by kernel_rfl) (pu (.bool true) (by kernel_rfl) (pu (.bool true) (by kernel_rfl) (puo (.bool true) ⟨(by kernel_rfl), (by kernel_rfl)⟩ (pu (.bool true) (by kernel_rfl) (pu (.bool true) (by kernel_rfl) (seq_on (by kernel_rfl) (s_loadK hI 0 2 [slv g176 y174.1.length c177, slv g179 y174.2.length c180] Try.isAgg25 Try.sizeOf25 rfl rfl rfl rfl ?_)))))))
                refine puo (slv g193 y191.length c194) ⟨(by kernel_rfl), (by kernel_rfl)⟩ (seq_on (by kernel_rfl) (s_loadK hI 5 2 [iv 0, slv g279 ([0, 2, 3, 6].length) c280] Try.isAgg67 Try.sizeOf67 rfl rfl rfl rfl ?_))
                refine seq_on (by kernel_rfl) (s_loadK hI 4 2 [iv y214.1, iv y214.2.1] Try.isAgg51 Try.sizeOf51 rfl rfl rfl rfl ?_)
                refine bindE hF (fun y300 hy301 hF => ?_)
                refine seq_on (by kernel_rfl) (s_callv hI 47 [.agg #[slv g176 y174.1.length c177, slv g179 y174.2.length c180], slv g193 y191.length c194, .agg #[iv 0, slv g279 ([0, 2, 3, 6].length) c280], .agg #[iv y214.1, iv y214.2.1]] (iv y300) (by kernel_rfl) (L47 _ (g176.map fun b => ⟨b, 0, none⟩) c177 y174.1 (g179.map fun b => ⟨b, 0, none⟩) c180 y174.2 (g193.map fun b => ⟨b, 0, none⟩) c194 y191 0 (g279.map fun b => ⟨b, 0, none⟩) c280 [0, 2, 3, 6] (⟨y214.1, y214.2.1⟩ : Gn) (hI.rowCells 1 rfl r182) (len_le rfl r182.big) (len_le rfl r182.cap) (hI.rowCells 2 rfl r183) (len_le rfl r183.big) (len_le rfl r183.cap) (hI.rowCells 3 rfl r196) (len_le rfl r196.big) (len_le rfl r196.cap) (hI.rowCells 6 rfl r282) (len_le rfl r282.big) (len_le rfl r282.cap) N _ hy301) ?_)
                intro w hI
                refine ifE hF (fun h125 hF => ?_) (fun h125 hF => ?_)
                ·
                 refine seq_on (by kernel_rfl) (s_eql rfl rfl (fun _ => ?_) (fun h => absurd (a := y300 = 0) h125 h))
                 refine pu (.bool true) (by kernel_rfl) (pu (.bool true) (by kernel_rfl) (seq_on (by kernel_rfl) (s_loadK hI 0 2 [slv g176 y174.1.length c177, slv g179 y174.2.length c180] Try.isAgg25 Try.sizeOf25 rfl rfl rfl rfl ?_)))
                 refine puo (slv g193 y191.length c194) ⟨(by kernel_rfl), (by kernel_rfl)⟩ (seq_on (by kernel_rfl) (s_loadK hI 5 2 [iv 0, slv g279 ([0, 2, 3, 6].length) c280] Try.isAgg67 Try.sizeOf67 rfl rfl rfl rfl ?_))
                 refine puo (.agg #[iv 3, iv 1]) ⟨(by kernel_rfl), (by kernel_rfl)⟩ (bindE hF (fun y302 hy303 hF => ?_))
                 refine seq_on (by kernel_rfl) (s_callv hI 47 [.agg #[slv g176 y174.1.length c177, slv g179 y174.2.length c180], slv g193 y191.length c194, .agg #[iv 0, slv g279 ([0, 2, 3, 6].length) c280], .agg #[iv 3, iv 1]] (iv y302) (by kernel_rfl) (L47 _ (g176.map fun b => ⟨b, 0, none⟩) c177 y174.1 (g179.map fun b => ⟨b, 0, none⟩) c180 y174.2 (g193.map fun b => ⟨b, 0, none⟩) c194 y191 0 (g279.map fun b => ⟨b, 0, none⟩) c280 [0, 2, 3, 6] (⟨3, 1⟩ : Gn) (hI.rowCells 1 rfl r182) (len_le rfl r182.big) (len_le rfl r182.cap) (hI.rowCells 2 rfl r183) (len_le rfl r183.big) (len_le rfl r183.cap) (hI.rowCells 3 rfl r196) (len_le rfl r196.big) (len_le rfl r196.cap) (hI.rowCells 6 rfl r282) (len_le rfl r282.big) (len_le rfl r282.cap) N _ hy303) ?_)
                 intro w hI
                 refine ifE hF (fun h126 hF => ?_) (fun h126 hF => ?_)
                 ·
                  refine seq_on (by kernel_rfl) (s_eql rfl rfl (fun _ => ?_) (fun h => absurd (a := y302 = 49) h126 h))
                  refine pu (.bool true) (by kernel_rfl) (pu (.bool true) (by kernel_rfl) (seq_nil (wp_ret ?_)))
                  replace hF := Option.some.inj hF; subst hF
                  exact ⟨.bool true, Ret.r1 rfl rfl, ⟨rfl, hI.below⟩⟩
                 ·
                  refine seq_on (by kernel_rfl) (s_eql rfl rfl (fun h => absurd (a := y302 = 49) h h126) (fun _ => ?_))
                  refine pu (.bool false) (by kernel_rfl) (pu (.bool false) (by kernel_rfl) (seq_nil (wp_ret ?_)))
                  replace hF := Option.some.inj hF; subst hF
                  exact ⟨.bool false, Ret.r1 rfl rfl, ⟨rfl, hI.below⟩⟩
                ·
                 refine seq_on (by kernel_rfl) (s_eql rfl rfl (fun h => absurd (a := y300 = 0) h h125) (fun _ => ?_))
                 refine pu (.bool false) (by kernel_rfl) (pu (.bool false) (by kernel_rfl) (of_ (by kernel_rfl) (of_ (by kernel_rfl) (of_ (by kernel_rfl) (of_ (by kernel_rfl) (of_ (by kernel_rfl) (of_ (by kernel_rfl) (pu (.bool false) (by kernel_rfl) (pu (.bool false) (by kernel_rfl) ?_)))))))))
                 refine seq_nil (wp_ret ?_)
                 replace hF := Option.some.inj hF; subst hF
                 exact ⟨.bool false, Ret.r1 rfl rfl, ⟨rfl, hI.below⟩⟩
               ·
                have hF := hG; clear hG
                refine ifE hF (fun h => absurd h (by decide)) (fun _ hF => ?_)
                refine rgn (by kernel_rfl) (pu (.bool true) (by kernel_rfl) (pu (.bool true) (by kernel_rfl) (puo (.bool false) ⟨(by kernel_rfl), (by kernel_rfl)⟩ (pu (.bool false) (by kernel_rfl) (pu (.bool false) (by kernel_rfl) (of_ (by kernel_rfl) (of_ (by kernel_rfl) (of_ (by kernel_rfl) (of_ (by kernel_rfl) ?_)))))))))
                refine of_ (by kernel_rfl) (of_ (by kernel_rfl) (pu (.bool false) (by kernel_rfl) (pu (.bool false) (by kernel_rfl) (of_ (by kernel_rfl) (of_ (by kernel_rfl) (of_ (by kernel_rfl) (of_ (by kernel_rfl) (of_ (by kernel_rfl) (of_ (by kernel_rfl) ?_)))))))))
                refine pu (.bool false) (by kernel_rfl) (pu (.bool false) (by kernel_rfl) (seq_nil (wp_ret ?_)))
                replace hF := Option.some.inj hF; subst hF
                exact ⟨.bool false, Ret.r1 rfl rfl, ⟨rfl, hI.below⟩⟩
              ·
               have hF := hG; clear hG
               refine ifE hF (fun h => absurd h (by decide)) (fun _ hF => ?_)
               have hG := hF; rcases Bool.eq_false_or_eq_true v294 with rfl | rfl
               ·
                have hF := hG; clear hG
                refine ifE hF (fun _ hF => ?_) (fun h => absurd rfl h)
                refine rgn (by kernel_rfl) (pu (.bool false) (by kernel_rfl) (pu (.bool false) (by kernel_rfl) (of_ (by kernel_rfl) (pu (.bool false) (by kernel_rfl) (pu (.bool false) (by kernel_rfl) (of_ (by kernel_rfl) (of_ (by kernel_rfl) (of_ (by kernel_rfl) (of_ (by kernel_rfl) ?_)))))))))
                refine of_ (by kernel_rfl) (of_ (by kernel_rfl) (pu (.bool false) (by kernel_rfl) (pu (.bool false) (by kernel_rfl) (of_ (by kernel_rfl) (of_ (by kernel_rfl) (of_ (by kernel_rfl) (of_ (by kernel_rfl) (of_ (by kernel_rfl) (of_ (by kernel_rfl) ?_)))))))))
                refine pu (.bool false) (by kernel_rfl) (pu (.bool false) (by kernel_rfl) (seq_nil (wp_ret ?_)))
                replace hF := Option.some.inj hF; subst hF
                exact ⟨.bool false, Ret.r1 rfl rfl, ⟨rfl, hI.below⟩⟩
               ·
                have hF := hG; clear hG
                refine ifE hF (fun h => absurd h (by decide)) (fun _ hF => ?_)
                refine rgn (by kernel_rfl) (pu (.bool false) (by kernel_rfl) (pu (.bool false) (by kernel_rfl) (of_ (by kernel_rfl) (pu (.bool false) (by kernel_rfl) (pu (.bool false) (by kernel_rfl) (of_ (by kernel_rfl) (of_ (by kernel_rfl) (of_ (by kernel_rfl) (of_ (by kernel_rfl) ?_)))))))))
                refine of_ (by kernel_rfl) (of_ (by kernel_rfl) (pu (.bool false) (by kernel_rfl) (pu (.bool false) (by kernel_rfl) (of_ (by kernel_rfl) (of_ (by kernel_rfl) (of_ (by kernel_rfl) (of_ (by kernel_rfl) (of_ (by kernel_rfl) (of_ (by kernel_rfl) ?_)))))))))
                refine pu (.bool false) (by kernel_rfl) (pu (.bool false) (by kernel_rfl) (seq_nil (wp_ret ?_)))
                replace hF := Option.some.inj hF; subst hF
                exact ⟨.bool false, Ret.r1 rfl rfl, ⟨rfl, hI.below⟩⟩
           ·
            refine seq_on (by kernel_rfl) (s_neq rfl rfl (fun _ => ?_) (fun h => absurd (a := (y223.1.length : Int) = 3) h h112))
            refine pu (.bool true) (by kernel_rfl) (seq_nil (wp_condT rfl (wp_seq (rgn (by kernel_rfl) (pu (.bool false) (by kernel_rfl) (seq_nil (wp_ret ?_)))))))
            replace hF := Option.some.inj hF; subst hF
            exact ⟨.bool false, Ret.r1 rfl rfl, ⟨rfl, hI.below⟩⟩
          ·
           refine seq_on (by kernel_rfl) (s_neq rfl rfl (fun _ => ?_) (fun h => absurd (a := (y253.1.length : Int) = 3) h h111))
           refine pu (.bool true) (by kernel_rfl) (pu (.bool true) (by kernel_rfl) (of_ (by kernel_rfl) (of_ (by kernel_rfl) (of_ (by kernel_rfl) (pu (.bool true) (by kernel_rfl) (seq_nil (wp_condT rfl (wp_seq (rgn (by kernel_rfl) ?_)))))))))
           refine pu (.bool false) (by kernel_rfl) (seq_nil (wp_ret ?_))
           replace hF := Option.some.inj hF; subst hF
           exact ⟨.bool false, Ret.r1 rfl rfl, ⟨rfl, hI.below⟩⟩
         ·
          refine seq_on (by kernel_rfl) (s_neq rfl rfl (fun _ => ?_) (fun h => absurd (a := y263.2.2 = 0) h h110))
          refine pu (.bool true) (by kernel_rfl) (pu (.bool true) (by kernel_rfl) (of_ (by kernel_rfl) (of_ (by kernel_rfl) (of_ (by kernel_rfl) (pu (.bool true) (by kernel_rfl) (pu (.bool true) (by kernel_rfl) (of_ (by kernel_rfl) (of_ (by kernel_rfl) (of_ (by kernel_rfl) ?_)))))))))
          refine pu (.bool true) (by kernel_rfl) (seq_nil (wp_condT rfl (wp_seq (rgn (by kernel_rfl) (pu (.bool false) (by kernel_rfl) (seq_nil (wp_ret ?_)))))))
          replace hF := Option.some.inj hF; subst hF
          exact ⟨.bool false, Ret.r1 rfl rfl, ⟨rfl, hI.below⟩⟩
        ·
         refine seq_on (by kernel_rfl) (s_neq rfl rfl (fun _ => ?_) (fun h => absurd (a := y253.2 = 0) h h109))
         refine pu (.bool true) (by kernel_rfl) (pu (.bool true) (by kernel_rfl) (of_ (by kernel_rfl) (of_ (by kernel_rfl) (pu (.bool true) (by kernel_rfl) (pu (.bool true) (by kernel_rfl) (of_ (by kernel_rfl) (of_ (by kernel_rfl) (of_ (by kernel_rfl) (pu (.bool true) (by kernel_rfl) ?_)))))))))
         refine pu (.bool true) (by kernel_rfl) (of_ (by kernel_rfl) (of_ (by kernel_rfl) (of_ (by kernel_rfl) (pu (.bool true) (by kernel_rfl) (seq_nil (wp_condT rfl (wp_seq (rgn (by kernel_rfl) (pu (.bool false) (by kernel_rfl) ?_)))))))))
         refine seq_nil (wp_ret ?_)
         replace hF := Option.some.inj hF; subst hF
         exact ⟨.bool false, Ret.r1 rfl rfl, ⟨rfl, hI.below⟩⟩
       ·
        refine seq_on (by kernel_rfl) (s_neq rfl rfl (fun _ => ?_) (fun h => absurd (a := y241.2 = 0) h h108))
        refine pu (.bool true) (by kernel_rfl) (pu (.bool true) (by kernel_rfl) (of_ (by kernel_rfl) (of_ (by kernel_rfl) (pu (.bool true) (by kernel_rfl) (pu (.bool true) (by kernel_rfl) (of_ (by kernel_rfl) (of_ (by kernel_rfl) (pu (.bool true) (by kernel_rfl) (pu (.bool true) (by kernel_rfl) ?_)))))))))
        refine of_ (by kernel_rfl) (of_ (by kernel_rfl) (of_ (by kernel_rfl) (pu (.bool true) (by kernel_rfl) (pu (.bool true) (by kernel_rfl) (of_ (by kernel_rfl) (of_ (by kernel_rfl) (of_ (by kernel_rfl) (pu (.bool true) (by kernel_rfl) (seq_nil ?_)))))))))
        refine wp_condT rfl (wp_seq (rgn (by kernel_rfl) (pu (.bool false) (by kernel_rfl) (seq_nil (wp_ret ?_)))))
        replace hF := Option.some.inj hF; subst hF
        exact ⟨.bool false, Ret.r1 rfl rfl, ⟨rfl, hI.below⟩⟩
      ·
       refine seq_on (by kernel_rfl) (s_neq rfl rfl (fun _ => ?_) (fun h => absurd (a := y232.2.2 = 0) h h107))
       refine pu (.bool true) (by kernel_rfl) (pu (.bool true) (by kernel_rfl) (of_ (by kernel_rfl) (of_ (by kernel_rfl) (pu (.bool true) (by kernel_rfl) (pu (.bool true) (by kernel_rfl) (of_ (by kernel_rfl) (of_ (by kernel_rfl) (pu (.bool true) (by kernel_rfl) (pu (.bool true) (by kernel_rfl) ?_)))))))))
       refine of_ (by kernel_rfl) (of_ (by kernel_rfl) (pu (.bool true) (by kernel_rfl) (pu (.bool true) (by kernel_rfl) (of_ (by kernel_rfl) (of_ (by kernel_rfl) (of_ (by kernel_rfl) (pu (.bool true) (by kernel_rfl) (pu (.bool true) (by kernel_rfl) (of_ (by kernel_rfl) ?_)))))))))
       refine of_ (by kernel_rfl) (of_ (by kernel_rfl) (pu (.bool true) (by kernel_rfl) (seq_nil (wp_condT rfl (wp_seq (rgn (by kernel_rfl) (pu (.bool false) (by kernel_rfl) (seq_nil (wp_ret ?_)))))))))
       replace hF := Option.some.inj hF; subst hF
       exact ⟨.bool false, Ret.r1 rfl rfl, ⟨rfl, hI.below⟩⟩
     ·
      refine seq_on (by kernel_rfl) (s_neq rfl rfl (fun _ => ?_) (fun h => absurd (a := y223.2 = 0) h h106))
      refine pu (.bool true) (by kernel_rfl) (pu (.bool true) (by kernel_rfl) (of_ (by kernel_rfl) (of_ (by kernel_rfl) (pu (.bool true) (by kernel_rfl) (pu (.bool true) (by kernel_rfl) (of_ (by kernel_rfl) (of_ (by kernel_rfl) (pu (.bool true) (by kernel_rfl) (pu (.bool true) (by kernel_rfl) ?_)))))))))
      refine of_ (by kernel_rfl) (of_ (by kernel_rfl) (pu (.bool true) (by kernel_rfl) (pu (.bool true) (by kernel_rfl) (of_ (by kernel_rfl) (of_ (by kernel_rfl) (pu (.bool true) (by kernel_rfl) (pu (.bool true) (by kernel_rfl) (of_ (by kernel_rfl) (of_ (by kernel_rfl) ?_)))))))))
      refine of_ (by kernel_rfl) (pu (.bool true) (by kernel_rfl) (pu (.bool true) (by kernel_rfl) (of_ (by kernel_rfl) (of_ (by kernel_rfl) (of_ (by kernel_rfl) (pu (.bool true) (by kernel_rfl) (seq_nil (wp_condT rfl (wp_seq ?_)))))))))
      refine rgn (by kernel_rfl) (pu (.bool false) (by kernel_rfl) (seq_nil (wp_ret ?_)))
      replace hF := Option.some.inj hF; subst hF
      exact ⟨.bool false, Ret.r1 rfl rfl, ⟨rfl, hI.below⟩⟩
    ·
     refine seq_on (by kernel_rfl) (s_neq rfl rfl (fun _ => ?_) (fun h => absurd (a := y214.2.2 = 0) h h105))
     refine pu (.bool true) (by kernel_rfl) (pu (.bool true) (by kernel_rfl) (of_ (by kernel_rfl) (of_ (by kernel_rfl) (pu (.bool true) (by kernel_rfl) (pu (.bool true) (by kernel_rfl) (of_ (by kernel_rfl) (of_ (by kernel_rfl) (pu (.bool true) (by kernel_rfl) (pu (.bool true) (by kernel_rfl) ?_)))))))))
     refine of_ (by kernel_rfl) (of_ (by kernel_rfl) (pu (.bool true) (by kernel_rfl) (pu (.bool true) (by kernel_rfl) (of_ (by kernel_rfl) (of_ (by kernel_rfl) (pu (.bool true) (by kernel_rfl) (pu (.bool true) (by kernel_rfl) (of_ (by kernel_rfl) (of_ (by kernel_rfl) ?_)))))))))
     refine pu (.bool true) (by kernel_rfl) (pu (.bool true) (by kernel_rfl) (of_ (by kernel_rfl) (of_ (by kernel_rfl) (of_ (by kernel_rfl) (pu (.bool true) (by kernel_rfl) (pu (.bool true) (by kernel_rfl) (of_ (by kernel_rfl) (of_ (by kernel_rfl) (of_ (by kernel_rfl) ?_)))))))))
     refine pu (.bool true) (by kernel_rfl) (seq_nil (wp_condT rfl (wp_seq (rgn (by kernel_rfl) (pu (.bool false) (by kernel_rfl) (seq_nil (wp_ret ?_)))))))
     replace hF := Option.some.inj hF; subst hF
     exact ⟨.bool false, Ret.r1 rfl rfl, ⟨rfl, hI.below⟩⟩
   ·
    refine seq_on (by kernel_rfl) (s_neq rfl rfl (fun _ => ?_) (fun h => absurd (a := y209.2 = 0) h h104))
    refine pu (.bool true) (by kernel_rfl) (pu (.bool true) (by kernel_rfl) (of_ (by kernel_rfl) (of_ (by kernel_rfl) (pu (.bool true) (by kernel_rfl) (pu (.bool true) (by kernel_rfl) (of_ (by kernel_rfl) (of_ (by kernel_rfl) (pu (.bool true) (by kernel_rfl) (pu (.bool true) (by kernel_rfl) ?_)))))))))
    refine of_ (by kernel_rfl) (of_ (by kernel_rfl) (pu (.bool true) (by kernel_rfl) (pu (.bool true) (by kernel_rfl) (of_ (by kernel_rfl) (of_ (by kernel_rfl) (pu (.bool true) (by kernel_rfl) (pu (.bool true) (by kernel_rfl) (of_ (by kernel_rfl) (of_ (by kernel_rfl) ?_)))))))))
    refine pu (.bool true) (by kernel_rfl) (pu (.bool true) (by kernel_rfl) (of_ (by kernel_rfl) (of_ (by kernel_rfl) (pu (.bool true) (by kernel_rfl) (pu (.bool true) (by kernel_rfl) (of_ (by kernel_rfl) (of_ (by kernel_rfl) (of_ (by kernel_rfl) (pu (.bool true) (by kernel_rfl) ?_)))))))))
    refine pu (.bool true) (by kernel_rfl) (of_ (by kernel_rfl) (of_ (by kernel_rfl) (of_ (by kernel_rfl) (pu (.bool true) (by kernel_rfl) (seq_nil (wp_condT rfl (wp_seq (rgn (by kernel_rfl) (pu (.bool false) (by kernel_rfl) ?_)))))))))
    refine seq_nil (wp_ret ?_)
    replace hF := Option.some.inj hF; subst hF
    exact ⟨.bool false, Ret.r1 rfl rfl, ⟨rfl, hI.below⟩⟩
  ·
   refine seq_on (by kernel_rfl) (s_neq rfl rfl (fun _ => ?_) (fun h => absurd (a := y205.2 = 0) h h103))
   refine pu (.bool true) (by kernel_rfl) (pu (.bool true) (by kernel_rfl) (of_ (by kernel_rfl) (of_ (by kernel_rfl) (pu (.bool true) (by kernel_rfl) (pu (.bool true) (by kernel_rfl) (of_ (by kernel_rfl) (of_ (by kernel_rfl) (pu (.bool true) (by kernel_rfl) (pu (.bool true) (by kernel_rfl) ?_)))))))))
   refine of_ (by kernel_rfl) (of_ (by kernel_rfl) (pu (.bool true) (by kernel_rfl) (pu (.bool true) (by kernel_rfl) (of_ (by kernel_rfl) (of_ (by kernel_rfl) (pu (.bool true) (by kernel_rfl) (pu (.bool true) (by kernel_rfl) (of_ (by kernel_rfl) (of_ (by kernel_rfl) ?_)))))))))
   refine pu (.bool true) (by kernel_rfl) (pu (.bool true) (by kernel_rfl) (of_ (by kernel_rfl) (of_ (by kernel_rfl) (pu (.bool true) (by kernel_rfl) (pu (.bool true) (by kernel_rfl) (of_ (by kernel_rfl) (of_ (by kernel_rfl) (pu (.bool true) (by kernel_rfl) (pu (.bool true) (by kernel_rfl) ?_)))))))))
   refine of_ (by kernel_rfl) (of_ (by kernel_rfl) (of_ (by kernel_rfl) (pu (.bool true) (by kernel_rfl) (pu (.bool true) (by kernel_rfl) (of_ (by kernel_rfl) (of_ (by kernel_rfl) (of_ (by kernel_rfl) (pu (.bool true) (by kernel_rfl) (seq_nil ?_)))))))))
   refine wp_condT rfl (wp_seq (rgn (by kernel_rfl) (pu (.bool false) (by kernel_rfl) (seq_nil (wp_ret ?_)))))
   replace hF := Option.some.inj hF; subst hF
   exact ⟨.bool false, Ret.r1 rfl rfl, ⟨rfl, hI.below⟩⟩
 ·
  refine seq_c (s_neq rfl rfl (fun _ => ?_) (fun h => absurd (a := y200.2.2 = 0) h h102))
  refine pu (.bool true) (by kernel_rfl) (of_ (by kernel_rfl) (of_ (by kernel_rfl) (pu (.bool true) (by kernel_rfl) (pu (.bool true) (by kernel_rfl) (of_ (by kernel_rfl) (of_ (by kernel_rfl) (pu (.bool true) (by kernel_rfl) (pu (.bool true) (by kernel_rfl) (of_ (by kernel_rfl) ?_)))))))))
  refine of_ (by kernel_rfl) (pu (.bool true) (by kernel_rfl) (pu (.bool true) (by kernel_rfl) (of_ (by kernel_rfl) (of_ (by kernel_rfl) (pu (.bool true) (by kernel_rfl) (pu (.bool true) (by kernel_rfl) (of_ (by kernel_rfl) (of_ (by kernel_rfl) (pu (.bool true) (by kernel_rfl) ?_)))))))))
  refine pu (.bool true) (by kernel_rfl) (of_ (by kernel_rfl) (of_ (by kernel_rfl) (pu (.bool true) (by kernel_rfl) (pu (.bool true) (by kernel_rfl) (of_ (by kernel_rfl) (of_ (by kernel_rfl) (pu (.bool true) (by kernel_rfl) (pu (.bool true) (by kernel_rfl) (of_ (by kernel_rfl) ?_)))))))))
  refine of_ (by kernel_rfl) (pu (.bool true) (by kernel_rfl) (pu (.bool true) (by kernel_rfl) (of_ (by kernel_rfl) (of_ (by kernel_rfl) (of_ (by kernel_rfl) (pu (.bool true) (by kernel_rfl) (pu (.bool true) (by kernel_rfl) (of_ (by kernel_rfl) (of_ (by kernel_rfl) ?_)))))))))
  refine of_ (by kernel_rfl) (pu (.bool true) (by kernel_rfl) (seq_nil (wp_condT rfl (wp_seq (rgn (by kernel_rfl) (pu (.bool false) (by kernel_rfl) (seq_nil (wp_ret ?_))))))))
  replace hF := Option.some.inj hF; subst hF
  exact ⟨.bool false, Ret.r1 rfl rfl, ⟨rfl, hI.below⟩⟩


theorem L61 (w0 : World) (p0 : Int) (p1 : Int) (p2 : Int) (r : Bool) (hF : F61 p0 p1 p2 = some r) : Does Try.prog 61 [.int .i64 p0, .int .i64 p1, .int .i64 p2] w0 fun v w => v = .bool r ∧ Below w0.heap.size w0 w := by
 refine calls_of (n := 15) Try.func61 rfl Try.ntmps61 rfl ?_
 have hI := Inv.start w0
 unfold F61 at hF
 refine wp_seq (rgn (by kernel_rfl) (pu (.bool false) (by kernel_rfl) (seq_nil (wp_seq (rgn (by kernel_rfl) (pu (iv p0) (by kernel_rfl) (pu (iv p1) (by kernel_rfl) (ifE hF (fun h7 hF => ?_) (fun h7 hF => ?_)))))))))
 ·
  refine seq_c (s_geq rfl rfl (fun _ => ?_) (fun h => absurd (a := p1 ≤ p0) h7 h))
  refine pu (.bool true) (by kernel_rfl) (puo (iv p0) ⟨(by kernel_rfl), (by kernel_rfl)⟩ (puo (iv p2) ⟨(by kernel_rfl), (by kernel_rfl)⟩ (ifE hF (fun h8 hF => ?_) (fun h8 hF => ?_))))
  ·
   refine seq_on (by kernel_rfl) (s_leq rfl rfl (fun _ => ?_) (fun h => absurd (a := p0 ≤ p2) h8 h))
   refine pu (.bool true) (by kernel_rfl) (pu (.bool true) (by kernel_rfl) (seq_nil (wp_ret ?_)))
   replace hF := Option.some.inj hF; subst hF
   exact ⟨.bool true, Ret.r1 rfl rfl, ⟨rfl, hI.below⟩⟩
  ·
   refine seq_on (by kernel_rfl) (s_leq rfl rfl (fun h => absurd (a := p0 ≤ p2) h h8) (fun _ => ?_))
   refine pu (.bool false) (by kernel_rfl) (pu (.bool false) (by kernel_rfl) (seq_nil (wp_ret ?_)))
   replace hF := Option.some.inj hF; subst hF
   exact ⟨.bool false, Ret.r1 rfl rfl, ⟨rfl, hI.below⟩⟩
 ·
  refine seq_c (s_geq rfl rfl (fun h => absurd (a := p1 ≤ p0) h h7) (fun _ => ?_))
  refine pu (.bool false) (by kernel_rfl) (of_ (by kernel_rfl) (of_ (by kernel_rfl) (of_ (by kernel_rfl) (pu (.bool false) (by kernel_rfl) (pu (.bool false) (by kernel_rfl) (seq_nil (wp_ret ?_)))))))
  replace hF := Option.some.inj hF; subst hF
  exact ⟨.bool false, Ret.r1 rfl rfl, ⟨rfl, hI.below⟩⟩


theorem L20 (w0 : World) (p0 : Ch) (r : Int) (hF : F20 p0 = some r) : Does Try.prog 20 [.agg #[.int .i64 p0.id, .int .i64 p0.lo, .int .i64 p0.hi]] w0 fun v w => v = .int .i64 r ∧ Below w0.heap.size w0 w := by
 refine calls_of (n := 23) Try.func20 rfl Try.ntmps20 rfl ?_
 have hI := Inv.start w0
 unfold F20 at hF
 refine wp_seq (rgn (by kernel_rfl) (seq_c (s_boxI hI [iv p0.id, iv p0.lo, iv p0.hi] rfl ?_)))
 intro b18 w hI
 refine pu (iv 0) (by kernel_rfl) (seq_nil (wp_seq (wp_seq (rgn (by kernel_rfl) (pu (.pointer (some ⟨b18, 0, none⟩)) (by kernel_rfl) (seq_c (s_load1 hI 0 (iv p0.id) Try.isAgg3 rfl rfl rfl ?_)))))))
 refine bindE hF (fun y31 hy32 hF => ?_)
 refine ifE hF (fun h22 hF => ?_) (fun h22 hF => ?_)
 ·
  refine seq_c (s_callv hI 61 [iv p0.id, iv 1, iv 99] (.bool true) (by kernel_rfl) (Does.mono (L61 _ p0.id 1 99 _ hy32) (fun v' w' h => ⟨h.1.trans (congrArg Value.bool h22), h.2⟩)) ?_)
  intro w hI
  refine pu (.bool false) (by kernel_rfl) (pu (.bool false) (by kernel_rfl) (puo (.pointer (some ⟨b18, 1, none⟩)) ⟨(by kernel_rfl), (by kernel_rfl)⟩ (puo (.pointer (some ⟨b18, 1, none⟩)) ⟨(by kernel_rfl), (by kernel_rfl)⟩ (seq_on (by kernel_rfl) (s_load1 hI 0 (iv p0.lo) Try.isAgg3 rfl rfl rfl ?_)))))
  refine puo (.pointer (some ⟨b18, 1, none⟩)) ⟨(by kernel_rfl), (by kernel_rfl)⟩ (puo (.pointer (some ⟨b18, 2, none⟩)) ⟨(by kernel_rfl), (by kernel_rfl)⟩ (seq_on (by kernel_rfl) (s_load1 hI 0 (iv p0.hi) Try.isAgg3 rfl rfl rfl ?_)))
  refine bindE hF (fun y33 hy34 hF => ?_)
  refine ifE hF (fun h23 hF => ?_) (fun h23 hF => ?_)
  ·
   refine seq_on (by kernel_rfl) (s_callv hI 61 [iv p0.lo, iv 1, iv p0.hi] (.bool true) (by kernel_rfl) (Does.mono (L61 _ p0.lo 1 p0.hi _ hy34) (fun v' w' h => ⟨h.1.trans (congrArg Value.bool h23), h.2⟩)) ?_)
   intro w hI
   refine puo (.bool false) ⟨(by kernel_rfl), (by kernel_rfl)⟩ (pu (.bool false) (by kernel_rfl) (pu (.bool false) (by kernel_rfl) (puo (.pointer (some ⟨b18, 1, none⟩)) ⟨(by kernel_rfl), (by kernel_rfl)⟩ (puo (.pointer (some ⟨b18, 2, none⟩)) ⟨(by kernel_rfl), (by kernel_rfl)⟩ (seq_on (by kernel_rfl) (s_load1 hI 0 (iv p0.hi) Try.isAgg3 rfl rfl rfl ?_))))))
   refine ifE hF (fun h24 hF => ?_) (fun h24 hF => ?_)
   ·
    refine seq_on (by kernel_rfl) (s_gtr rfl rfl (fun _ => ?_) (fun h => absurd (a := 1000 < p0.hi) h24 h))
    refine pu (.bool true) (by kernel_rfl) (seq_nil (wp_condT rfl (wp_seq (rgn (by kernel_rfl) (pu (iv 40) (by kernel_rfl) (seq_nil (wp_ret ?_)))))))
    replace hF := Option.some.inj hF; subst hF
    exact ⟨iv 40, Ret.r1 rfl rfl, ⟨rfl, hI.below⟩⟩
   ·
    refine seq_on (by kernel_rfl) (s_gtr rfl rfl (fun h => absurd (a := 1000 < p0.hi) h h24) (fun _ => ?_))
    refine pu (.bool false) (by kernel_rfl) (seq_nil (wp_condF rfl (wp_skip (wp_seq (rgn (by kernel_rfl) (pu (iv 0) (by kernel_rfl) (seq_nil (wp_ret ?_))))))))
    replace hF := Option.some.inj hF; subst hF
    exact ⟨iv 0, Ret.r1 rfl rfl, ⟨rfl, hI.below⟩⟩
  ·
   refine seq_on (by kernel_rfl) (s_callv hI 61 [iv p0.lo, iv 1, iv p0.hi] (.bool false) (by kernel_rfl) (Does.mono (L61 _ p0.lo 1 p0.hi _ hy34) (fun v' w' h => ⟨h.1.trans (congrArg Value.bool (Bool.eq_false_iff.2 h23)), h.2⟩)) ?_)
   intro w hI
   refine puo (.bool true) ⟨(by kernel_rfl), (by kernel_rfl)⟩ (pu (.bool true) (by kernel_rfl) (pu (.bool true) (by kernel_rfl) (of_ (by kernel_rfl) (of_ (by kernel_rfl) (of_ (by kernel_rfl) (of_ (by kernel_rfl) (pu (.bool true) (by kernel_rfl) (seq_nil (wp_condT rfl ?_)))))))))
   refine wp_seq (rgn (by kernel_rfl) (pu (iv 40) (by kernel_rfl) (seq_nil (wp_ret ?_))))
   replace hF := Option.some.inj hF; subst hF
   exact ⟨iv 40, Ret.r1 rfl rfl, ⟨rfl, hI.below⟩⟩
 ·
  refine seq_c (s_callv hI 61 [iv p0.id, iv 1, iv 99] (.bool false) (by kernel_rfl) (Does.mono (L61 _ p0.id 1 99 _ hy32) (fun v' w' h => ⟨h.1.trans (congrArg Value.bool (Bool.eq_false_iff.2 h22)), h.2⟩)) ?_)
  intro w hI
  refine pu (.bool true) (by kernel_rfl) (pu (.bool true) (by kernel_rfl) (of_ (by kernel_rfl) (of_ (by kernel_rfl) (of_ (by kernel_rfl) (of_ (by kernel_rfl) (of_ (by kernel_rfl) (of_ (by kernel_rfl) (of_ (by kernel_rfl) (of_ (by kernel_rfl) ?_)))))))))
  refine pu (.bool true) (by kernel_rfl) (pu (.bool true) (by kernel_rfl) (of_ (by kernel_rfl) (of_ (by kernel_rfl) (of_ (by kernel_rfl) (of_ (by kernel_rfl) (pu (.bool true) (by kernel_rfl) (seq_nil (wp_condT rfl (wp_seq ?_)))))))))
  refine rgn (by kernel_rfl) (pu (iv 40) (by kernel_rfl) (seq_nil (wp_ret ?_)))
  replace hF := Option.some.inj hF; subst hF
  exact ⟨iv 40, Ret.r1 rfl rfl, ⟨rfl, hI.below⟩⟩


theorem L22 (w0 : World) (p0 : Ce) (r : Int) (hF : F22 p0 = some r) : Does Try.prog 22 [.agg #[.int .i64 p0.ch, .int .i64 p0.ln, .int .i64 p0.wo]] w0 fun v w => v = .int .i64 r ∧ Below w0.heap.size w0 w := by
 refine calls_of (n := 19) Try.func22 rfl Try.ntmps22 rfl ?_
 have hI := Inv.start w0
 unfold F22 at hF
 refine wp_seq (rgn (by kernel_rfl) (seq_c (s_boxI hI [iv p0.ch, iv p0.ln, iv p0.wo] rfl ?_)))
 intro b26 w hI
 refine pu (iv 0) (by kernel_rfl) (seq_nil (wp_seq (wp_seq (rgn (by kernel_rfl) (pu (.pointer (some ⟨b26, 0, none⟩)) (by kernel_rfl) (seq_c (s_load1 hI 0 (iv p0.ch) Try.isAgg3 rfl rfl rfl ?_)))))))
 refine bindE hF (fun y45 hy46 hF => ?_)
 refine ifE hF (fun h22 hF => ?_) (fun h22 hF => ?_)
 ·
  refine seq_c (s_callv hI 61 [iv p0.ch, iv 1, iv 99] (.bool true) (by kernel_rfl) (Does.mono (L61 _ p0.ch 1 99 _ hy46) (fun v' w' h => ⟨h.1.trans (congrArg Value.bool h22), h.2⟩)) ?_)
  intro w hI
  refine pu (.bool false) (by kernel_rfl) (pu (.bool false) (by kernel_rfl) (puo (.pointer (some ⟨b26, 1, none⟩)) ⟨(by kernel_rfl), (by kernel_rfl)⟩ (seq_on (by kernel_rfl) (s_load1 hI 0 (iv p0.ln) Try.isAgg3 rfl rfl rfl ?_))))
  refine bindE hF (fun y47 hy48 hF => ?_)
  refine ifE hF (fun h23 hF => ?_) (fun h23 hF => ?_)
  ·
   refine seq_on (by kernel_rfl) (s_callv hI 61 [iv p0.ln, iv 1, iv 1000] (.bool true) (by kernel_rfl) (Does.mono (L61 _ p0.ln 1 1000 _ hy48) (fun v' w' h => ⟨h.1.trans (congrArg Value.bool h23), h.2⟩)) ?_)
   intro w hI
   refine puo (.bool false) ⟨(by kernel_rfl), (by kernel_rfl)⟩ (pu (.bool false) (by kernel_rfl) (pu (.bool false) (by kernel_rfl) (puo (.pointer (some ⟨b26, 2, none⟩)) ⟨(by kernel_rfl), (by kernel_rfl)⟩ (seq_on (by kernel_rfl) (s_load1 hI 0 (iv p0.wo) Try.isAgg3 rfl rfl rfl ?_)))))
   refine bindE hF (fun y49 hy50 hF => ?_)
   refine ifE hF (fun h24 hF => ?_) (fun h24 hF => ?_)
   ·
    refine seq_on (by kernel_rfl) (s_callv hI 61 [iv p0.wo, iv 0, iv 10000] (.bool true) (by kernel_rfl) (Does.mono (L61 _ p0.wo 0 10000 _ hy50) (fun v' w' h => ⟨h.1.trans (congrArg Value.bool h24), h.2⟩)) ?_)
    intro w hI
    refine puo (.bool false) ⟨(by kernel_rfl), (by kernel_rfl)⟩ (pu (.bool false) (by kernel_rfl) (seq_nil (wp_condF rfl (wp_skip (wp_seq (rgn (by kernel_rfl) (pu (iv 0) (by kernel_rfl) (seq_nil (wp_ret ?_)))))))))
    replace hF := Option.some.inj hF; subst hF
    exact ⟨iv 0, Ret.r1 rfl rfl, ⟨rfl, hI.below⟩⟩
   ·
    refine seq_on (by kernel_rfl) (s_callv hI 61 [iv p0.wo, iv 0, iv 10000] (.bool false) (by kernel_rfl) (Does.mono (L61 _ p0.wo 0 10000 _ hy50) (fun v' w' h => ⟨h.1.trans (congrArg Value.bool (Bool.eq_false_iff.2 h24)), h.2⟩)) ?_)
    intro w hI
    refine puo (.bool true) ⟨(by kernel_rfl), (by kernel_rfl)⟩ (pu (.bool true) (by kernel_rfl) (seq_nil (wp_condT rfl (wp_seq (rgn (by kernel_rfl) (pu (iv 41) (by kernel_rfl) (seq_nil (wp_ret ?_))))))))
    replace hF := Option.some.inj hF; subst hF
    exact ⟨iv 41, Ret.r1 rfl rfl, ⟨rfl, hI.below⟩⟩
  ·
   refine seq_on (by kernel_rfl) (s_callv hI 61 [iv p0.ln, iv 1, iv 1000] (.bool false) (by kernel_rfl) (Does.mono (L61 _ p0.ln 1 1000 _ hy48) (fun v' w' h => ⟨h.1.trans (congrArg Value.bool (Bool.eq_false_iff.2 h23)), h.2⟩)) ?_)
   intro w hI
   refine puo (.bool true) ⟨(by kernel_rfl), (by kernel_rfl)⟩ (pu (.bool true) (by kernel_rfl) (pu (.bool true) (by kernel_rfl) (of_ (by kernel_rfl) (of_ (by kernel_rfl) (of_ (by kernel_rfl) (of_ (by kernel_rfl) (pu (.bool true) (by kernel_rfl) (seq_nil (wp_condT rfl ?_)))))))))
   refine wp_seq (rgn (by kernel_rfl) (pu (iv 41) (by kernel_rfl) (seq_nil (wp_ret ?_))))
   replace hF := Option.some.inj hF; subst hF
   exact ⟨iv 41, Ret.r1 rfl rfl, ⟨rfl, hI.below⟩⟩
 ·
  refine seq_c (s_callv hI 61 [iv p0.ch, iv 1, iv 99] (.bool false) (by kernel_rfl) (Does.mono (L61 _ p0.ch 1 99 _ hy46) (fun v' w' h => ⟨h.1.trans (congrArg Value.bool (Bool.eq_false_iff.2 h22)), h.2⟩)) ?_)
  intro w hI
  refine pu (.bool true) (by kernel_rfl) (pu (.bool true) (by kernel_rfl) (of_ (by kernel_rfl) (of_ (by kernel_rfl) (of_ (by kernel_rfl) (of_ (by kernel_rfl) (pu (.bool true) (by kernel_rfl) (pu (.bool true) (by kernel_rfl) (of_ (by kernel_rfl) (of_ (by kernel_rfl) ?_)))))))))
  refine of_ (by kernel_rfl) (of_ (by kernel_rfl) (pu (.bool true) (by kernel_rfl) (seq_nil (wp_condT rfl (wp_seq (rgn (by kernel_rfl) (pu (iv 41) (by kernel_rfl) (seq_nil (wp_ret ?_)))))))))
  replace hF := Option.some.inj hF; subst hF
  exact ⟨iv 41, Ret.r1 rfl rfl, ⟨rfl, hI.below⟩⟩


theorem L63 (w0 : World) (Ap0_0 : Option Addr) (cp0_0 : Nat) (lp0_0 : List Ch) (Ap0_1 : Option Addr) (cp0_1 : Nat) (lp0_1 : List Ce) (p1 : Int) (hCp0_0 : Cells w0 Ap0_0 (flat eCh lp0_0)) (hMp0_0 : lp0_0.length ≤ 9223372036854775807) (hKp0_0 : lp0_0.length ≤ cp0_0) (hCp0_1 : Cells w0 Ap0_1 (flat eCe lp0_1)) (hMp0_1 : lp0_1.length ≤ 9223372036854775807) (hKp0_1 : lp0_1.length ≤ cp0_1) (N : Nat) (r : Int) (hF : F63 N lp0_0 lp0_1 p1 = some r) : Does Try.prog 63 [.agg #[.slice Ap0_0 lp0_0.length cp0_0, .slice Ap0_1 lp0_1.length cp0_1], .int .i64 p1] w0 fun v w => v = .int .i64 r ∧ Below w0.heap.size w0 w := by
 refine calls_of (n := 22) Try.func63 rfl Try.ntmps63 rfl ?_
 have hI := Inv.start w0
 unfold F63 at hF
 refine wp_seq (rgn (by kernel_rfl) (seq_c (s_boxI hI [.slice Ap0_0 lp0_0.length cp0_0, .slice Ap0_1 lp0_1.length cp0_1] rfl ?_)))
 intro b174 w hI
 refine pu (iv 0) (by kernel_rfl) (seq_nil (wp_seq (wp_seq (rgn (by kernel_rfl) (pu (iv 0) (by kernel_rfl) (seq_nil (wp_block ?_)))))))
 refine wp_loop (fun m ρ w => ∃ (i_318 : Int) (mm : Nat), Agree ρ [(1, iv p1), (2, .pointer (some ⟨b174, 0, none⟩)), (5, iv i_318)] ∧ Inv [] w0 w [(some b174, blk [.slice Ap0_0 lp0_0.length cp0_0, .slice Ap0_1 lp0_1.length cp0_1] 25)] ∧ F63l1 lp0_0 p1 mm i_318 = some r ∧ mm = m) (m := N) ⟨0, N, ⟨rfl, rfl, rfl, trivial⟩, hI.pickL [0] (by decide) rfl, hF, rfl⟩ ?_
 rintro m ρ w ⟨i_318, mm, hag, hI, hF, hm⟩
 subst hm; obtain ⟨ρ, rfl⟩ := hag.form; clear hag
 obtain _ | m1 := mm
 ·cases (show (none : Option Int) = some r from hF)
 replace hF : F63b1 lp0_0 p1 (F63l1 lp0_0 p1 m1) i_318 = some r := hF; unfold F63b1 at hF
 refine wp_seq (wp_seq (rgn (by kernel_rfl) (pu (iv i_318) (by kernel_rfl) (pu (.pointer (some ⟨b174, 0, none⟩)) (by kernel_rfl) (seq_c (s_load1 hI 0 (.slice Ap0_0 lp0_0.length cp0_0) Try.isAgg22 rfl rfl rfl ?_))))))
 refine pu (iv ((lp0_0.length : Nat) : Int)) (by kernel_rfl) (ifE hF (fun h127 hF => ?_) (fun h127 hF => ?_))
 ·
  refine seq_c (s_lss rfl rfl (fun _ => ?_) (fun h => absurd (a := i_318 < (lp0_0.length : Int)) h127 h))
  refine seq_nil (wp_condT rfl (wp_skip (wp_seq (wp_block ?_))))
  refine wp_seq (rgn (by kernel_rfl) (pu (.pointer (some ⟨b174, 0, none⟩)) (by kernel_rfl) (seq_c (s_load1 hI 0 (.slice Ap0_0 lp0_0.length cp0_0) Try.isAgg22 rfl rfl rfl ?_))))
  refine pu (iv i_318) (by kernel_rfl) (gdE hF (fun h134 hF => ?_))
  refine bindE hF (fun x340 hx341 hF => ?_)
  obtain ⟨b342, o343, hA344, hb345, he346⟩ := hCp0_0.at_ eCh_len (by decide) hx341
  refine seq_c (s_indexA (i_318).toNat Try.underlying22 Try.sizeOf30 rfl hA344 rfl (Int.toNat_of_nonneg h134).symm (lt_n hx341 rfl) ?_)
  refine pu (.pointer (some ⟨b342, o343 + (i_318).toNat * 3, none⟩)) (by kernel_rfl) (seq_c (s_loadB1 hI (iv x340.id) Try.isAgg3 rfl hb345 (by simp) (he346 0 _ rfl) ?_))
  refine pu (iv p1) (by kernel_rfl) (ifE hF (fun h135 hF => ?_) (fun h135 hF => ?_))
  ·
   refine seq_c (s_eql rfl rfl (fun _ => ?_) (fun h => absurd (a := x340.id = p1) h135 h))
   refine seq_nil (wp_condT rfl (wp_seq (rgn (by kernel_rfl) (pu (iv i_318) (by kernel_rfl) (pu (iv i_318) (by kernel_rfl) (seq_nil (wp_ret ?_)))))))
   replace hF := Option.some.inj hF; subst hF
   exact ⟨iv i_318, Ret.r1 rfl rfl, ⟨rfl, hI.below⟩⟩
  ·
   refine seq_c (s_eql rfl rfl (fun h => absurd (a := x340.id = p1) h h135) (fun _ => ?_))
   refine seq_nil (wp_condF rfl (wp_skip (rgn (by kernel_rfl) (pu (iv i_318) (by kernel_rfl) (ckE hF (fun h136 hF => ?_))))))
   refine seq_c (s_add rfl rfl h136 ?_)
   refine pu (iv (i_318 + 1)) (by kernel_rfl) (seq_nil ?_)
   exact ⟨rfl, m1, Nat.lt_succ_self _, ⟨i_318 + 1, m1, ⟨rfl, rfl, rfl, trivial⟩, hI.pickL [0] (by decide) rfl, hF, rfl⟩⟩
 ·
  refine seq_c (s_lss rfl rfl (fun h => absurd (a := i_318 < (lp0_0.length : Int)) h h127) (fun _ => ?_))
  refine seq_nil (wp_condF rfl (wp_exit ?_))
  refine wp_seq (rgn (by kernel_rfl) (pu (iv (-1)) (by kernel_rfl) (seq_nil (wp_ret ?_))))
  replace hF := Option.some.inj hF; subst hF
  exact ⟨iv (-1), Ret.r1 rfl rfl, ⟨rfl, hI.below⟩⟩


end Go.K
