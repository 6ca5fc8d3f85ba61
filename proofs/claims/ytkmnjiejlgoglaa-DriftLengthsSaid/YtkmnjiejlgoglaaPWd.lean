/- That the functions do what the pure definitions say: walks, as tools/lift.py writes them. No condition. -/
import Derived.Test.YtkmnjiejlgoglaaPWc
namespace Go.K
open Go.Proofs Go.RowKit
set_option linter.unusedVariables false
set_option maxRecDepth 100000
attribute [local irreducible] Seq Step CallV AnyE opX
theorem L30 (w0 : World) (Ap0_0 : Option Addr) (cp0_0 : Nat) (lp0_0 : List Ch) (Ap0_1 : Option Addr) (cp0_1 : Nat) (lp0_1 : List Ce) (Ap1 : Option Addr) (cp1 : Nat) (lp1 : List Int) (p2 : Dr) (hCp0_0 : Cells w0 Ap0_0 (flat eCh lp0_0)) (hMp0_0 : lp0_0.length ≤ 9223372036854775807) (hKp0_0 : lp0_0.length ≤ cp0_0) (hCp0_1 : Cells w0 Ap0_1 (flat eCe lp0_1)) (hMp0_1 : lp0_1.length ≤ 9223372036854775807) (hKp0_1 : lp0_1.length ≤ cp0_1) (hCp1 : Cells w0 Ap1 (flat eInt lp1)) (hMp1 : lp1.length ≤ 9223372036854775807) (hKp1 : lp1.length ≤ cp1) (N : Nat) (r : (Int × Int)) (hF : F30 N lp0_0 lp0_1 lp1 p2 = some r) : Does Try.prog 30 [.agg #[.slice Ap0_0 lp0_0.length cp0_0, .slice Ap0_1 lp0_1.length cp0_1], .slice Ap1 lp1.length cp1, .agg #[.int .i64 p2.fr, .int .i64 p2.to]] w0 fun v w => v = .tuple #[.int .i64 r.1, .int .i64 r.2] ∧ Below w0.heap.size w0 w := by
 refine calls_of (n := 43) Try.func30 rfl Try.ntmps30 rfl ?_
 have hI := Inv.start w0
 unfold F30 at hF
 refine wp_seq (rgn (by kernel_rfl) (seq_c (s_boxI hI [.slice Ap0_0 lp0_0.length cp0_0, .slice Ap0_1 lp0_1.length cp0_1] rfl ?_)))
 intro b280 w hI
 refine seq_c (s_boxI hI [iv p2.fr, iv p2.to] rfl ?_)
 intro b281 w hI
 refine pu (iv 0) (by kernel_rfl) (pu (iv 0) (by kernel_rfl) (seq_nil (wp_seq (wp_seq (rgn (by kernel_rfl) (seq_c (s_loadK hI 1 2 [.slice Ap0_0 lp0_0.length cp0_0, .slice Ap0_1 lp0_1.length cp0_1] Try.isAgg25 Try.sizeOf25 rfl rfl rfl rfl ?_)))))))
 refine bindE hF (fun y288 hy289 hF => ?_)
 refine seq_c (s_callv hI 16 [.agg #[.slice Ap0_0 lp0_0.length cp0_0, .slice Ap0_1 lp0_1.length cp0_1]] (iv y288) (by kernel_rfl) (L16 _ Ap0_0 cp0_0 lp0_0 Ap0_1 cp0_1 lp0_1 (hCp0_0.inv0 hI) hMp0_0 hKp0_0 (hCp0_1.inv0 hI) hMp0_1 hKp0_1 N _ hy289) ?_)
 intro w hI
 refine ifE hF (fun h76 hF => ?_) (fun h76 hF => ?_)
 ·
  refine seq_c (s_neq rfl rfl (fun h => absurd (a := y288 = 0) h76 h) (fun _ => ?_))
  refine seq_nil (wp_condF rfl (wp_skip (wp_seq (wp_seq (rgn (by kernel_rfl) (seq_c (s_loadK hI 1 2 [.slice Ap0_0 lp0_0.length cp0_0, .slice Ap0_1 lp0_1.length cp0_1] Try.isAgg25 Try.sizeOf25 rfl rfl rfl rfl ?_)))))))
  refine pu (.slice Ap1 lp1.length cp1) (by kernel_rfl) (bindE hF (fun y296 hy297 hF => ?_))
  refine ifE hF (fun h80 hF => ?_) (fun h80 hF => ?_)
  ·
   refine seq_c (s_callv hI 75 [.agg #[.slice Ap0_0 lp0_0.length cp0_0, .slice Ap0_1 lp0_1.length cp0_1], .slice Ap1 lp1.length cp1] (.bool true) (by kernel_rfl) (Does.mono (L75 _ Ap0_0 cp0_0 lp0_0 Ap0_1 cp0_1 lp0_1 Ap1 cp1 lp1 (hCp0_0.inv0 hI) hMp0_0 hKp0_0 (hCp0_1.inv0 hI) hMp0_1 hKp0_1 (hCp1.inv0 hI) hMp1 hKp1 N _ hy297) (fun v' w' h => ⟨h.1.trans (congrArg Value.bool h80), h.2⟩)) ?_)
   intro w hI
   refine pu (.bool false) (by kernel_rfl) (seq_nil (wp_condF rfl (wp_skip (wp_seq (wp_seq (rgn (by kernel_rfl) (seq_c (s_loadK hI 1 2 [.slice Ap0_0 lp0_0.length cp0_0, .slice Ap0_1 lp0_1.length cp0_1] Try.isAgg25 Try.sizeOf25 rfl rfl rfl rfl ?_))))))))
   refine seq_c (s_loadK hI 0 2 [iv p2.fr, iv p2.to] Try.isAgg49 Try.sizeOf49 rfl rfl rfl rfl ?_)
   refine bindE hF (fun y304 hy305 hF => ?_)
   refine ifE hF (fun h84 hF => ?_) (fun h84 hF => ?_)
   ·
    refine seq_c (s_callv hI 69 [.agg #[.slice Ap0_0 lp0_0.length cp0_0, .slice Ap0_1 lp0_1.length cp0_1], .agg #[iv p2.fr, iv p2.to]] (.bool true) (by kernel_rfl) (Does.mono (L69 _ Ap0_0 cp0_0 lp0_0 Ap0_1 cp0_1 lp0_1 p2 (hCp0_0.inv0 hI) hMp0_0 hKp0_0 (hCp0_1.inv0 hI) hMp0_1 hKp0_1 _ hy305) (fun v' w' h => ⟨h.1.trans (congrArg Value.bool h84), h.2⟩)) ?_)
    intro w hI
    refine pu (.bool false) (by kernel_rfl) (seq_nil (wp_condF rfl (wp_skip (wp_seq (rgn (by kernel_rfl) (seq_c (s_loadK hI 1 2 [.slice Ap0_0 lp0_0.length cp0_0, .slice Ap0_1 lp0_1.length cp0_1] Try.isAgg25 Try.sizeOf25 rfl rfl rfl rfl ?_)))))))
    refine seq_c (s_loadK hI 0 2 [iv p2.fr, iv p2.to] Try.isAgg49 Try.sizeOf49 rfl rfl rfl rfl ?_)
    refine bindE hF (fun y312 hy313 hF => ?_)
    refine seq_c (s_call 71 [.agg #[.slice Ap0_0 lp0_0.length cp0_0, .slice Ap0_1 lp0_1.length cp0_1], .agg #[iv p2.fr, iv p2.to]] (by kernel_rfl) (L71 _ Ap0_0 cp0_0 lp0_0 Ap0_1 cp0_1 lp0_1 p2 (hCp0_0.inv0 hI) hMp0_0 hKp0_0 (hCp0_1.inv0 hI) hMp0_1 hKp0_1 N _ hy313) ?_)
    rintro v w ⟨g314, c315, cl316, rfl, hN, r317⟩
    have hI := hI.join hN; clear hN
    refine pu (slv g314 y312.length c315) (by kernel_rfl) (seq_nil (wp_seq (rgn (by kernel_rfl) (pu (iv 0) (by kernel_rfl) (seq_nil (wp_seq (wp_seq (rgn (by kernel_rfl) (pu (iv 0) (by kernel_rfl) ?_)))))))))
    refine seq_nil (wp_block ?_)
    refine wp_loop (fun m ρ w => ∃ (g517 : Option Nat) (c518 : Nat) (cl519 : List Value) (out_521 : Int) (k_522 : Int) (mm : Nat), Agree ρ [(1, .slice Ap1 lp1.length cp1), (8, slv g517 y312.length c518), (9, iv out_521), (10, iv k_522)] ∧ Inv [] w0 w [(g517, blk cl519 3)] ∧ (Row 1 g517 (y312.length) c518 cl519 (flat eInt y312)) ∧ F30l1 lp1 y312 mm out_521 k_522 = some r ∧ mm = m) (m := N) ⟨g314, c315, cl316, 0, 0, N, ⟨rfl, rfl, rfl, rfl, trivial⟩, hI.pickL [0] (by decide) rfl, (r317.to rfl rfl), hF, rfl⟩ ?_
    rintro m ρ w ⟨g517, c518, cl519, out_521, k_522, mm, hag, hI, r520, hF, hm⟩
    subst hm; obtain ⟨ρ, rfl⟩ := hag.form; clear hag
    obtain _ | m1 := mm
    ·cases (show (none : Option (Int × Int)) = some r from hF)
    replace hF : F30b1 lp1 y312 (F30l1 lp1 y312 m1) out_521 k_522 = some r := hF; unfold F30b1 at hF
    refine wp_seq (wp_seq (rgn (by kernel_rfl) (pu (iv k_522) (by kernel_rfl) (pu (slv g517 y312.length c518) (by kernel_rfl) (pu (iv ((y312.length : Nat) : Int)) (by kernel_rfl) (ifE hF (fun h137 hF => ?_) (fun h137 hF => ?_)))))))
    ·
     refine seq_c (s_lss rfl rfl (fun _ => ?_) (fun h => absurd (a := k_522 < (y312.length : Int)) h137 h))
     refine seq_nil (wp_condT rfl (wp_skip (wp_seq (wp_block ?_))))
     refine gdE hF (fun h141 hF => ?_)
     refine bindE hF (fun x541 hx542 hF => ?_)
     refine bindE hF (fun x545 hx546 hF => ?_)
     refine ckE hF (fun h142 hF => ?_)
     refine ckE hF (fun h143 hF => ?_)
     refine wp_drawn2 hI [0] (by decide) rfl (by kernel_rfl) (by kernel_rfl) ?_
     intro hsub
     refine alp 0 (iv out_521) hsub rfl (by kernel_rfl) (fun _ => (by kernel_rfl)) ?_
     refine alp 1 (slv g517 y312.length c518) hsub rfl (by kernel_rfl) (fun _ => (by kernel_rfl)) ?_
     refine alp 2 (iv k_522) hsub rfl (by kernel_rfl) (fun _ => (by kernel_rfl)) ?_
     obtain ⟨b552, rfl, he553⟩ := r520.at_ eInt_len (by decide) hx542
     refine al_light 3 (.pointer (some ⟨b552, (k_522).toNat * 1, none⟩)) hsub rfl (by kernel_rfl) (fun w hI => s_indexR (k_522).toNat Try.underlying52 Try.sizeOf3 rfl rfl (Int.toNat_of_nonneg h141).symm (lt_n hx542 rfl) ⟨rfl, Below.refl _ _⟩) ?_
     refine al_light 4 (iv x541) hsub rfl (by kernel_rfl) (fun w hI => s_loadR1 hI 0 (iv x541) Try.isAgg3 rfl rfl (he553 0 _ rfl) ⟨rfl, Below.refl _ _⟩) ?_
     refine alp 5 (.slice Ap1 lp1.length cp1) hsub rfl (by kernel_rfl) (fun _ => (by kernel_rfl)) ?_
     refine alp 6 (iv k_522) hsub rfl (by kernel_rfl) (fun _ => (by kernel_rfl)) ?_
     obtain ⟨b554, o555, hA556, hb557, he558⟩ := hCp1.at_ eInt_len (by decide) hx546
     refine al_light 7 (.pointer (some ⟨b554, o555 + (k_522).toNat * 1, none⟩)) hsub rfl (by kernel_rfl) (fun w hI => s_indexA (k_522).toNat Try.underlying52 Try.sizeOf3 rfl hA556 rfl (Int.toNat_of_nonneg h141).symm (lt_n hx546 rfl) ⟨rfl, Below.refl _ _⟩) ?_
     refine al_light 8 (iv x545) hsub rfl (by kernel_rfl) (fun w hI => s_loadB1 hI (iv x545) Try.isAgg3 rfl hb557 (by simp) (he558 0 _ rfl) ⟨rfl, Below.refl _ _⟩) ?_
     refine al_light 9 (iv (x541 * x545)) hsub rfl (by kernel_rfl) (fun w hI => s_mul rfl rfl h142 ⟨rfl, Below.refl _ _⟩) ?_
     refine al_light 10 (iv (out_521 + (x541 * x545))) hsub rfl (by kernel_rfl) (fun w hI => s_add rfl rfl h143 ⟨rfl, Below.refl _ _⟩) ?_
     refine alp 11 (iv (out_521 + (x541 * x545))) hsub rfl (by kernel_rfl) (fun _ => (by kernel_rfl)) ?_
     refine any_end (by kernel_rfl) (fun w hI => ?_)
     refine rgn (by kernel_rfl) (pu (iv k_522) (by kernel_rfl) (ckE hF (fun h144 hF => ?_)))
     refine seq_c (s_add rfl rfl h144 ?_)
     refine pu (iv (k_522 + 1)) (by kernel_rfl) (seq_nil ?_)
     exact ⟨rfl, m1, Nat.lt_succ_self _, ⟨some b552, c518, cl519, out_521 + (x541 * x545), k_522 + 1, m1, ⟨rfl, rfl, rfl, rfl, trivial⟩, hI.pickL [0] (by decide) rfl, (r520.to rfl rfl), hF, rfl⟩⟩
    ·
     refine seq_c (s_lss rfl rfl (fun h => absurd (a := k_522 < (y312.length : Int)) h h137) (fun _ => ?_))
     refine seq_nil (wp_condF rfl (wp_exit ?_))
     refine wp_seq (rgn (by kernel_rfl) (pu (iv out_521) (by kernel_rfl) (pu (iv out_521) (by kernel_rfl) (pu (iv 0) (by kernel_rfl) (seq_nil (wp_ret ?_))))))
     replace hF := Option.some.inj hF; subst hF
     exact ⟨.tuple #[iv out_521, iv 0], Ret.r2 rfl rfl rfl, ⟨rfl, hI.below⟩⟩
   ·
    refine seq_c (s_callv hI 69 [.agg #[.slice Ap0_0 lp0_0.length cp0_0, .slice Ap0_1 lp0_1.length cp0_1], .agg #[iv p2.fr, iv p2.to]] (.bool false) (by kernel_rfl) (Does.mono (L69 _ Ap0_0 cp0_0 lp0_0 Ap0_1 cp0_1 lp0_1 p2 (hCp0_0.inv0 hI) hMp0_0 hKp0_0 (hCp0_1.inv0 hI) hMp0_1 hKp0_1 _ hy305) (fun v' w' h => ⟨h.1.trans (congrArg Value.bool (Bool.eq_false_iff.2 h84)), h.2⟩)) ?_)
    intro w hI
    refine pu (.bool true) (by kernel_rfl) (seq_nil (wp_condT rfl (wp_seq (rgn (by kernel_rfl) (pu (iv 0) (by kernel_rfl) (pu (iv 45) (by kernel_rfl) (seq_nil (wp_ret ?_))))))))
    replace hF := Option.some.inj hF; subst hF
    exact ⟨.tuple #[iv 0, iv 45], Ret.r2 rfl rfl rfl, ⟨rfl, hI.below⟩⟩
  ·
   refine seq_c (s_callv hI 75 [.agg #[.slice Ap0_0 lp0_0.length cp0_0, .slice Ap0_1 lp0_1.length cp0_1], .slice Ap1 lp1.length cp1] (.bool false) (by kernel_rfl) (Does.mono (L75 _ Ap0_0 cp0_0 lp0_0 Ap0_1 cp0_1 lp0_1 Ap1 cp1 lp1 (hCp0_0.inv0 hI) hMp0_0 hKp0_0 (hCp0_1.inv0 hI) hMp0_1 hKp0_1 (hCp1.inv0 hI) hMp1 hKp1 N _ hy297) (fun v' w' h => ⟨h.1.trans (congrArg Value.bool (Bool.eq_false_iff.2 h80)), h.2⟩)) ?_)
   intro w hI
   refine pu (.bool true) (by kernel_rfl) (seq_nil (wp_condT rfl (wp_seq (rgn (by kernel_rfl) (pu (iv 0) (by kernel_rfl) (pu (iv 1) (by kernel_rfl) (seq_nil (wp_ret ?_))))))))
   replace hF := Option.some.inj hF; subst hF
   exact ⟨.tuple #[iv 0, iv 1], Ret.r2 rfl rfl rfl, ⟨rfl, hI.below⟩⟩
 ·
  refine seq_c (s_neq rfl rfl (fun _ => ?_) (fun h => absurd (a := y288 = 0) h h76))
  refine seq_nil (wp_condT rfl (wp_seq (rgn (by kernel_rfl) (pu (iv 0) (by kernel_rfl) (pu (iv 42) (by kernel_rfl) (seq_nil (wp_ret ?_)))))))
  replace hF := Option.some.inj hF; subst hF
  exact ⟨.tuple #[iv 0, iv 42], Ret.r2 rfl rfl rfl, ⟨rfl, hI.below⟩⟩


theorem L31 (w0 : World) (Ap0_0 : Option Addr) (cp0_0 : Nat) (lp0_0 : List Ch) (Ap0_1 : Option Addr) (cp0_1 : Nat) (lp0_1 : List Ce) (p1 : Dr) (hCp0_0 : Cells w0 Ap0_0 (flat eCh lp0_0)) (hMp0_0 : lp0_0.length ≤ 9223372036854775807) (hKp0_0 : lp0_0.length ≤ cp0_0) (hCp0_1 : Cells w0 Ap0_1 (flat eCe lp0_1)) (hMp0_1 : lp0_1.length ≤ 9223372036854775807) (hKp0_1 : lp0_1.length ≤ cp0_1) (N : Nat) (r : (Int × Int)) (hF : F31 N lp0_0 lp0_1 p1 = some r) : Does Try.prog 31 [.agg #[.slice Ap0_0 lp0_0.length cp0_0, .slice Ap0_1 lp0_1.length cp0_1], .agg #[.int .i64 p1.fr, .int .i64 p1.to]] w0 fun v w => v = .tuple #[.int .i64 r.1, .int .i64 r.2] ∧ Below w0.heap.size w0 w := by
 refine calls_of (n := 21) Try.func31 rfl Try.ntmps31 rfl ?_
 have hI := Inv.start w0
 unfold F31 at hF
 refine wp_seq (rgn (by kernel_rfl) (seq_c (s_boxI hI [.slice Ap0_0 lp0_0.length cp0_0, .slice Ap0_1 lp0_1.length cp0_1] rfl ?_)))
 intro b38 w hI
 refine seq_c (s_boxI hI [iv p1.fr, iv p1.to] rfl ?_)
 intro b39 w hI
 refine pu (iv 0) (by kernel_rfl) (pu (iv 0) (by kernel_rfl) (seq_nil (wp_seq (rgn (by kernel_rfl) (seq_c (s_loadK hI 1 2 [.slice Ap0_0 lp0_0.length cp0_0, .slice Ap0_1 lp0_1.length cp0_1] Try.isAgg25 Try.sizeOf25 rfl rfl rfl rfl ?_))))))
 refine seq_c (s_loadK hI 0 2 [iv p1.fr, iv p1.to] Try.isAgg49 Try.sizeOf49 rfl rfl rfl rfl ?_)
 refine seq_c (s_new hI [iv p1.fr, iv p1.to] 49 (fun b => slv (some b) 1 1) (by kernel_rfl) ?_)
 intro b56 w hI
 refine bindS3E hF (fun y57 hy58 hF => ?_) (fun y59 hy60 hF => ?_) (fun y61 hy62 hF => ?_)
 ·
  refine seq_c (s_callv hI 66 [.agg #[.slice Ap0_0 lp0_0.length cp0_0, .slice Ap0_1 lp0_1.length cp0_1], .slice (some ⟨b56, 0, none⟩) 1 1] (.tuple #[.agg #[.slice none 0 0, .slice none 0 0, .map none], iv 42]) (by kernel_rfl) (L66 _ Ap0_0 cp0_0 lp0_0 Ap0_1 cp0_1 lp0_1 (some ⟨b56, 0, none⟩) 1 [(⟨p1.fr, p1.to⟩ : Dr)] (hCp0_0.inv0 hI) hMp0_0 hKp0_0 (hCp0_1.inv0 hI) hMp0_1 hKp0_1 (hI.cells 0 (off := 0) rfl (fun j u h => by rw [Nat.zero_add]; exact h)) (Nat.le_of_ble_eq_true rfl) (Nat.le_refl _) N _ hy58) ?_)
  intro w hI
  refine pu (.tuple #[.agg #[.slice none 0 0, .slice none 0 0, .map none], iv 42]) (by kernel_rfl) (pu (.agg #[.slice none 0 0, .slice none 0 0, .map none]) (by kernel_rfl) (pu (iv 42) (by kernel_rfl) (seq_c (s_allocI hI [.slice none 0 0, .slice none 0 0, .map none] Try.zeroValue115 rfl ?_))))
  intro b63 w hI
  refine seq_c (s_store hI 0 3 [.slice none 0 0, .slice none 0 0, .map none] Try.sizeOf115 rfl rfl rfl rfl rfl (Nat.le_of_ble_eq_true rfl) ?_)
  intro w hI
  refine pu (iv 42) (by kernel_rfl) (seq_nil (wp_seq (wp_seq (rgn (by kernel_rfl) (pu (iv 42) (by kernel_rfl) (seq_c (s_neq rfl rfl (fun _ => ?_) (fun h => absurd (a := 42 = 0) h (by decide)))))))))
  refine seq_nil (wp_condT rfl (wp_seq (rgn (by kernel_rfl) (pu (iv 42) (by kernel_rfl) (pu (iv 0) (by kernel_rfl) (pu (iv 42) (by kernel_rfl) (seq_nil (wp_ret ?_))))))))
  replace hF := Option.some.inj hF; subst hF
  exact ⟨.tuple #[iv 0, iv 42], Ret.r2 rfl rfl rfl, ⟨rfl, hI.below⟩⟩
 ·
  refine seq_c (s_callv hI 66 [.agg #[.slice Ap0_0 lp0_0.length cp0_0, .slice Ap0_1 lp0_1.length cp0_1], .slice (some ⟨b56, 0, none⟩) 1 1] (.tuple #[.agg #[.slice none 0 0, .slice none 0 0, .map none], iv 45]) (by kernel_rfl) (L66 _ Ap0_0 cp0_0 lp0_0 Ap0_1 cp0_1 lp0_1 (some ⟨b56, 0, none⟩) 1 [(⟨p1.fr, p1.to⟩ : Dr)] (hCp0_0.inv0 hI) hMp0_0 hKp0_0 (hCp0_1.inv0 hI) hMp0_1 hKp0_1 (hI.cells 0 (off := 0) rfl (fun j u h => by rw [Nat.zero_add]; exact h)) (Nat.le_of_ble_eq_true rfl) (Nat.le_refl _) N _ hy60) ?_)
  intro w hI
  refine pu (.tuple #[.agg #[.slice none 0 0, .slice none 0 0, .map none], iv 45]) (by kernel_rfl) (pu (.agg #[.slice none 0 0, .slice none 0 0, .map none]) (by kernel_rfl) (pu (iv 45) (by kernel_rfl) (seq_c (s_allocI hI [.slice none 0 0, .slice none 0 0, .map none] Try.zeroValue115 rfl ?_))))
  intro b64 w hI
  refine seq_c (s_store hI 0 3 [.slice none 0 0, .slice none 0 0, .map none] Try.sizeOf115 rfl rfl rfl rfl rfl (Nat.le_of_ble_eq_true rfl) ?_)
  intro w hI
  refine pu (iv 45) (by kernel_rfl) (seq_nil (wp_seq (wp_seq (rgn (by kernel_rfl) (pu (iv 45) (by kernel_rfl) (seq_c (s_neq rfl rfl (fun _ => ?_) (fun h => absurd (a := 45 = 0) h (by decide)))))))))
  refine seq_nil (wp_condT rfl (wp_seq (rgn (by kernel_rfl) (pu (iv 45) (by kernel_rfl) (pu (iv 0) (by kernel_rfl) (pu (iv 45) (by kernel_rfl) (seq_nil (wp_ret ?_))))))))
  replace hF := Option.some.inj hF; subst hF
  exact ⟨.tuple #[iv 0, iv 45], Ret.r2 rfl rfl rfl, ⟨rfl, hI.below⟩⟩
 ·
  refine seq_c (s_call 66 [.agg #[.slice Ap0_0 lp0_0.length cp0_0, .slice Ap0_1 lp0_1.length cp0_1], .slice (some ⟨b56, 0, none⟩) 1 1] (by kernel_rfl) (L66 _ Ap0_0 cp0_0 lp0_0 Ap0_1 cp0_1 lp0_1 (some ⟨b56, 0, none⟩) 1 [(⟨p1.fr, p1.to⟩ : Dr)] (hCp0_0.inv0 hI) hMp0_0 hKp0_0 (hCp0_1.inv0 hI) hMp0_1 hKp0_1 (hI.cells 0 (off := 0) rfl (fun j u h => by rw [Nat.zero_add]; exact h)) (Nat.le_of_ble_eq_true rfl) (Nat.le_refl _) N _ hy62) ?_)
  rintro v w ⟨b65, es66, ck67, rfl, hN, ho68, hM69⟩
  have hI := hI.join hN; clear hN
  refine pu (.tuple #[.agg #[.slice Ap0_0 lp0_0.length cp0_0, .slice Ap0_1 lp0_1.length cp0_1, .map (some b65)], iv 0]) (by kernel_rfl) (pu (.agg #[.slice Ap0_0 lp0_0.length cp0_0, .slice Ap0_1 lp0_1.length cp0_1, .map (some b65)]) (by kernel_rfl) (pu (iv 0) (by kernel_rfl) (seq_c (s_allocI hI [.slice none 0 0, .slice none 0 0, .map none] Try.zeroValue115 rfl ?_))))
  intro b70 w hI
  refine seq_c (s_store hI 0 3 [.slice Ap0_0 lp0_0.length cp0_0, .slice Ap0_1 lp0_1.length cp0_1, .map (some b65)] Try.sizeOf115 rfl rfl rfl rfl rfl (Nat.le_of_ble_eq_true rfl) ?_)
  intro w hI
  refine pu (iv 0) (by kernel_rfl) (seq_nil (wp_seq (wp_seq (rgn (by kernel_rfl) (pu (iv 0) (by kernel_rfl) (seq_c (s_neq rfl rfl (fun h => absurd (a := 0 = 0) (by decide) h) (fun _ => ?_))))))))
  refine seq_nil (wp_condF rfl (wp_skip (wp_seq (rgn (by kernel_rfl) (seq_c (s_loadK hI 0 3 [.slice Ap0_0 lp0_0.length cp0_0, .slice Ap0_1 lp0_1.length cp0_1, .map (some b65)] Try.isAgg115 Try.sizeOf115 rfl rfl rfl rfl ?_))))))
  refine seq_c (s_loadK hI 3 2 [iv p1.fr, iv p1.to] Try.isAgg49 Try.sizeOf49 rfl rfl rfl rfl ?_)
  refine bindE hF (fun y73 hy74 hF => ?_)
  refine seq_c (s_callv hI 76 [.agg #[.slice Ap0_0 lp0_0.length cp0_0, .slice Ap0_1 lp0_1.length cp0_1, .map (some b65)], .agg #[iv p1.fr, iv p1.to]] (iv y73) (by kernel_rfl) (L76 _ Ap0_0 cp0_0 lp0_0 Ap0_1 cp0_1 lp0_1 b65 es66 ck67 y61 p1 (hCp0_0.inv0 hI) hMp0_0 hKp0_0 (hCp0_1.inv0 hI) hMp0_1 hKp0_1 (hI.has 1 _ _ rfl).1 ho68 hM69 N _ hy74) ?_)
  intro w hI
  refine pu (iv y73) (by kernel_rfl) (pu (iv 0) (by kernel_rfl) (seq_nil (wp_ret ?_)))
  replace hF := Option.some.inj hF; subst hF
  exact ⟨.tuple #[iv y73, iv 0], Ret.r2 rfl rfl rfl, ⟨rfl, hI.below⟩⟩


theorem L77 (w0 : World) (Ap0_0 : Option Addr) (cp0_0 : Nat) (lp0_0 : List Ch) (Ap0_1 : Option Addr) (cp0_1 : Nat) (lp0_1 : List Ce) (p1 : Int) (p2 : Int) (hCp0_0 : Cells w0 Ap0_0 (flat eCh lp0_0)) (hMp0_0 : lp0_0.length ≤ 9223372036854775807) (hKp0_0 : lp0_0.length ≤ cp0_0) (hCp0_1 : Cells w0 Ap0_1 (flat eCe lp0_1)) (hMp0_1 : lp0_1.length ≤ 9223372036854775807) (hKp0_1 : lp0_1.length ≤ cp0_1) (N : Nat) (r : Int) (hF : F77 N lp0_0 lp0_1 p1 p2 = some r) : Does Try.prog 77 [.agg #[.slice Ap0_0 lp0_0.length cp0_0, .slice Ap0_1 lp0_1.length cp0_1], .int .i64 p1, .int .i64 p2] w0 fun v w => v = .int .i64 r ∧ Below w0.heap.size w0 w := by
 refine calls_of (n := 31) Try.func77 rfl Try.ntmps77 rfl ?_
 have hI := Inv.start w0
 unfold F77 at hF
 refine wp_seq (rgn (by kernel_rfl) (seq_c (s_boxI hI [.slice Ap0_0 lp0_0.length cp0_0, .slice Ap0_1 lp0_1.length cp0_1] rfl ?_)))
 intro b95 w hI
 refine pu (iv 0) (by kernel_rfl) (seq_nil (wp_seq (rgn (by kernel_rfl) (pu (iv 0) (by kernel_rfl) (seq_nil (wp_seq (wp_seq (rgn (by kernel_rfl) (pu (iv p1) (by kernel_rfl) ?_)))))))))
 refine pu (iv p1) (by kernel_rfl) (seq_nil (wp_block ?_))
 refine wp_loop (fun m ρ w => ∃ (out_173 : Int) (i_174 : Int) (mm : Nat), Agree ρ [(2, iv p2), (3, .pointer (some ⟨b95, 0, none⟩)), (7, iv out_173), (8, iv i_174)] ∧ Inv [] w0 w [(some b95, blk [.slice Ap0_0 lp0_0.length cp0_0, .slice Ap0_1 lp0_1.length cp0_1] 25)] ∧ F77l1 lp0_1 p2 mm out_173 i_174 = some r ∧ mm = m) (m := N) ⟨0, p1, N, ⟨rfl, rfl, rfl, rfl, trivial⟩, hI.pickL [0] (by decide) rfl, hF, rfl⟩ ?_
 rintro m ρ w ⟨out_173, i_174, mm, hag, hI, hF, hm⟩
 subst hm; obtain ⟨ρ, rfl⟩ := hag.form; clear hag
 obtain _ | m1 := mm
 ·cases (show (none : Option Int) = some r from hF)
 replace hF : F77b1 lp0_1 p2 (F77l1 lp0_1 p2 m1) out_173 i_174 = some r := hF; unfold F77b1 at hF
 refine wp_seq (wp_seq (rgn (by kernel_rfl) (pu (iv i_174) (by kernel_rfl) (pu (iv p2) (by kernel_rfl) (ifE hF (fun h150 hF => ?_) (fun h150 hF => ?_))))))
 ·
  refine seq_c (s_leq rfl rfl (fun _ => ?_) (fun h => absurd (a := i_174 ≤ p2) h150 h))
  refine pu (.bool true) (by kernel_rfl) (puo (iv i_174) ⟨(by kernel_rfl), (by kernel_rfl)⟩ (puo (.pointer (some ⟨b95, 1, none⟩)) ⟨(by kernel_rfl), (by kernel_rfl)⟩ (seq_on (by kernel_rfl) (s_load1 hI 0 (.slice Ap0_1 lp0_1.length cp0_1) Try.isAgg23 rfl rfl rfl ?_))))
  refine puo (iv ((lp0_1.length : Nat) : Int)) ⟨(by kernel_rfl), (by kernel_rfl)⟩ (ifE hF (fun h151 hF => ?_) (fun h151 hF => ?_))
  ·
   refine seq_on (by kernel_rfl) (s_lss rfl rfl (fun _ => ?_) (fun h => absurd (a := i_174 < (lp0_1.length : Int)) h151 h))
   refine pu (.bool true) (by kernel_rfl) (seq_nil (wp_condT rfl (wp_skip (wp_seq (wp_block ?_)))))
   refine rgn (by kernel_rfl) (pu (iv out_173) (by kernel_rfl) (pu (.pointer (some ⟨b95, 1, none⟩)) (by kernel_rfl) (seq_c (s_load1 hI 0 (.slice Ap0_1 lp0_1.length cp0_1) Try.isAgg23 rfl rfl rfl ?_))))
   refine pu (iv i_174) (by kernel_rfl) (gdE hF (fun h154 hF => ?_))
   refine bindE hF (fun x182 hx183 hF => ?_)
   obtain ⟨b184, o185, hA186, hb187, he188⟩ := hCp0_1.at_ eCe_len (by decide) hx183
   refine seq_c (s_indexA (i_174).toNat Try.underlying23 Try.sizeOf32 rfl hA186 rfl (Int.toNat_of_nonneg h154).symm (lt_n hx183 rfl) ?_)
   refine pu (.pointer (some ⟨b184, o185 + (i_174).toNat * 3 + 2, none⟩)) (by kernel_rfl) (seq_c (s_loadB1 hI (iv x182.wo) Try.isAgg3 rfl hb187 (by simp) (he188 2 _ rfl) ?_))
   refine ckE hF (fun h155 hF => ?_)
   refine seq_c (s_add rfl rfl h155 ?_)
   refine pu (iv (out_173 + x182.wo)) (by kernel_rfl) (seq_nil (rgn (by kernel_rfl) (pu (iv i_174) (by kernel_rfl) (ckE hF (fun h156 hF => ?_)))))
   refine seq_c (s_add rfl rfl h156 ?_)
   refine pu (iv (i_174 + 1)) (by kernel_rfl) (seq_nil ?_)
   exact ⟨rfl, m1, Nat.lt_succ_self _, ⟨out_173 + x182.wo, i_174 + 1, m1, ⟨rfl, rfl, rfl, rfl, trivial⟩, hI.pickL [0] (by decide) rfl, hF, rfl⟩⟩
  ·
   refine seq_on (by kernel_rfl) (s_lss rfl rfl (fun h => absurd (a := i_174 < (lp0_1.length : Int)) h h151) (fun _ => ?_))
   refine pu (.bool false) (by kernel_rfl) (seq_nil (wp_condF rfl (wp_exit ?_)))
   refine wp_seq (rgn (by kernel_rfl) (pu (iv out_173) (by kernel_rfl) (pu (iv out_173) (by kernel_rfl) (seq_nil (wp_ret ?_)))))
   replace hF := Option.some.inj hF; subst hF
   exact ⟨iv out_173, Ret.r1 rfl rfl, ⟨rfl, hI.below⟩⟩
 ·
  refine seq_c (s_leq rfl rfl (fun h => absurd (a := i_174 ≤ p2) h h150) (fun _ => ?_))
  refine pu (.bool false) (by kernel_rfl) (of_ (by kernel_rfl) (of_ (by kernel_rfl) (of_ (by kernel_rfl) (of_ (by kernel_rfl) (of_ (by kernel_rfl) (pu (.bool false) (by kernel_rfl) (seq_nil (wp_condF rfl (wp_exit ?_)))))))))
  refine wp_seq (rgn (by kernel_rfl) (pu (iv out_173) (by kernel_rfl) (pu (iv out_173) (by kernel_rfl) (seq_nil (wp_ret ?_)))))
  replace hF := Option.some.inj hF; subst hF
  exact ⟨iv out_173, Ret.r1 rfl rfl, ⟨rfl, hI.below⟩⟩


theorem L32 (w0 : World) (Ap0_0 : Option Addr) (cp0_0 : Nat) (lp0_0 : List Ch) (Ap0_1 : Option Addr) (cp0_1 : Nat) (lp0_1 : List Ce) (p1 : Dr) (hCp0_0 : Cells w0 Ap0_0 (flat eCh lp0_0)) (hMp0_0 : lp0_0.length ≤ 9223372036854775807) (hKp0_0 : lp0_0.length ≤ cp0_0) (hCp0_1 : Cells w0 Ap0_1 (flat eCe lp0_1)) (hMp0_1 : lp0_1.length ≤ 9223372036854775807) (hKp0_1 : lp0_1.length ≤ cp0_1) (N : Nat) (r : (Int × Int)) (hF : F32 N lp0_0 lp0_1 p1 = some r) : Does Try.prog 32 [.agg #[.slice Ap0_0 lp0_0.length cp0_0, .slice Ap0_1 lp0_1.length cp0_1], .agg #[.int .i64 p1.fr, .int .i64 p1.to]] w0 fun v w => v = .tuple #[.int .i64 r.1, .int .i64 r.2] ∧ Below w0.heap.size w0 w := by
 refine calls_of (n := 19) Try.func32 rfl Try.ntmps32 rfl ?_
 have hI := Inv.start w0
 unfold F32 at hF
 refine wp_seq (rgn (by kernel_rfl) (seq_c (s_boxI hI [.slice Ap0_0 lp0_0.length cp0_0, .slice Ap0_1 lp0_1.length cp0_1] rfl ?_)))
 intro b23 w hI
 refine seq_c (s_boxI hI [iv p1.fr, iv p1.to] rfl ?_)
 intro b24 w hI
 refine pu (iv 0) (by kernel_rfl) (pu (iv 0) (by kernel_rfl) (seq_nil (wp_seq (wp_seq (rgn (by kernel_rfl) (seq_c (s_loadK hI 1 2 [.slice Ap0_0 lp0_0.length cp0_0, .slice Ap0_1 lp0_1.length cp0_1] Try.isAgg25 Try.sizeOf25 rfl rfl rfl rfl ?_)))))))
 refine bindE hF (fun y31 hy32 hF => ?_)
 refine seq_c (s_callv hI 16 [.agg #[.slice Ap0_0 lp0_0.length cp0_0, .slice Ap0_1 lp0_1.length cp0_1]] (iv y31) (by kernel_rfl) (L16 _ Ap0_0 cp0_0 lp0_0 Ap0_1 cp0_1 lp0_1 (hCp0_0.inv0 hI) hMp0_0 hKp0_0 (hCp0_1.inv0 hI) hMp0_1 hKp0_1 N _ hy32) ?_)
 intro w hI
 refine ifE hF (fun h12 hF => ?_) (fun h12 hF => ?_)
 ·
  refine seq_c (s_neq rfl rfl (fun h => absurd (a := y31 = 0) h12 h) (fun _ => ?_))
  refine seq_nil (wp_condF rfl (wp_skip (wp_seq (wp_seq (rgn (by kernel_rfl) (seq_c (s_loadK hI 1 2 [.slice Ap0_0 lp0_0.length cp0_0, .slice Ap0_1 lp0_1.length cp0_1] Try.isAgg25 Try.sizeOf25 rfl rfl rfl rfl ?_)))))))
  refine seq_c (s_loadK hI 0 2 [iv p1.fr, iv p1.to] Try.isAgg49 Try.sizeOf49 rfl rfl rfl rfl ?_)
  refine bindE hF (fun y39 hy40 hF => ?_)
  refine ifE hF (fun h16 hF => ?_) (fun h16 hF => ?_)
  ·
   refine seq_c (s_callv hI 69 [.agg #[.slice Ap0_0 lp0_0.length cp0_0, .slice Ap0_1 lp0_1.length cp0_1], .agg #[iv p1.fr, iv p1.to]] (.bool true) (by kernel_rfl) (Does.mono (L69 _ Ap0_0 cp0_0 lp0_0 Ap0_1 cp0_1 lp0_1 p1 (hCp0_0.inv0 hI) hMp0_0 hKp0_0 (hCp0_1.inv0 hI) hMp0_1 hKp0_1 _ hy40) (fun v' w' h => ⟨h.1.trans (congrArg Value.bool h16), h.2⟩)) ?_)
   intro w hI
   refine pu (.bool false) (by kernel_rfl) (seq_nil (wp_condF rfl (wp_skip (wp_seq (rgn (by kernel_rfl) (seq_c (s_loadK hI 1 2 [.slice Ap0_0 lp0_0.length cp0_0, .slice Ap0_1 lp0_1.length cp0_1] Try.isAgg25 Try.sizeOf25 rfl rfl rfl rfl ?_)))))))
   refine pu (.pointer (some ⟨b24, 0, none⟩)) (by kernel_rfl) (seq_c (s_load1 hI 0 (iv p1.fr) Try.isAgg3 rfl rfl rfl ?_))
   refine pu (.pointer (some ⟨b24, 1, none⟩)) (by kernel_rfl) (seq_c (s_load1 hI 0 (iv p1.to) Try.isAgg3 rfl rfl rfl ?_))
   refine bindE hF (fun y43 hy44 hF => ?_)
   refine seq_c (s_callv hI 77 [.agg #[.slice Ap0_0 lp0_0.length cp0_0, .slice Ap0_1 lp0_1.length cp0_1], iv p1.fr, iv p1.to] (iv y43) (by kernel_rfl) (L77 _ Ap0_0 cp0_0 lp0_0 Ap0_1 cp0_1 lp0_1 p1.fr p1.to (hCp0_0.inv0 hI) hMp0_0 hKp0_0 (hCp0_1.inv0 hI) hMp0_1 hKp0_1 N _ hy44) ?_)
   intro w hI
   refine pu (iv y43) (by kernel_rfl) (pu (iv 0) (by kernel_rfl) (seq_nil (wp_ret ?_)))
   replace hF := Option.some.inj hF; subst hF
   exact ⟨.tuple #[iv y43, iv 0], Ret.r2 rfl rfl rfl, ⟨rfl, hI.below⟩⟩
  ·
   refine seq_c (s_callv hI 69 [.agg #[.slice Ap0_0 lp0_0.length cp0_0, .slice Ap0_1 lp0_1.length cp0_1], .agg #[iv p1.fr, iv p1.to]] (.bool false) (by kernel_rfl) (Does.mono (L69 _ Ap0_0 cp0_0 lp0_0 Ap0_1 cp0_1 lp0_1 p1 (hCp0_0.inv0 hI) hMp0_0 hKp0_0 (hCp0_1.inv0 hI) hMp0_1 hKp0_1 _ hy40) (fun v' w' h => ⟨h.1.trans (congrArg Value.bool (Bool.eq_false_iff.2 h16)), h.2⟩)) ?_)
   intro w hI
   refine pu (.bool true) (by kernel_rfl) (seq_nil (wp_condT rfl (wp_seq (rgn (by kernel_rfl) (pu (iv 0) (by kernel_rfl) (pu (iv 45) (by kernel_rfl) (seq_nil (wp_ret ?_))))))))
   replace hF := Option.some.inj hF; subst hF
   exact ⟨.tuple #[iv 0, iv 45], Ret.r2 rfl rfl rfl, ⟨rfl, hI.below⟩⟩
 ·
  refine seq_c (s_neq rfl rfl (fun _ => ?_) (fun h => absurd (a := y31 = 0) h h12))
  refine seq_nil (wp_condT rfl (wp_seq (rgn (by kernel_rfl) (pu (iv 0) (by kernel_rfl) (pu (iv 42) (by kernel_rfl) (seq_nil (wp_ret ?_)))))))
  replace hF := Option.some.inj hF; subst hF
  exact ⟨.tuple #[iv 0, iv 42], Ret.r2 rfl rfl rfl, ⟨rfl, hI.below⟩⟩


theorem L33 (w0 : World) (p0 : Gn) (p1 : Gn) (r : (Int × Int)) (hF : F33 p0 p1 = some r) : Does Try.prog 33 [.agg #[.int .i64 p0.num, .int .i64 p0.den], .agg #[.int .i64 p1.num, .int .i64 p1.den]] w0 fun v w => v = .tuple #[.int .i64 r.1, .int .i64 r.2] ∧ Below w0.heap.size w0 w := by
 refine calls_of (n := 17) Try.func33 rfl Try.ntmps33 rfl ?_
 have hI := Inv.start w0
 unfold F33 at hF
 refine wp_seq (rgn (by kernel_rfl) (seq_c (s_boxI hI [iv p0.num, iv p0.den] rfl ?_)))
 intro b23 w hI
 refine seq_c (s_boxI hI [iv p1.num, iv p1.den] rfl ?_)
 intro b24 w hI
 refine pu (iv 0) (by kernel_rfl) (pu (iv 0) (by kernel_rfl) (seq_nil (wp_seq (wp_seq (rgn (by kernel_rfl) (seq_c (s_loadK hI 1 2 [iv p0.num, iv p0.den] Try.isAgg51 Try.sizeOf51 rfl rfl rfl rfl ?_)))))))
 refine bindE hF (fun y37 hy38 hF => ?_)
 refine ifE hF (fun h15 hF => ?_) (fun h15 hF => ?_)
 ·
  refine seq_c (s_callv hI 78 [.agg #[iv p0.num, iv p0.den]] (.bool true) (by kernel_rfl) (Does.mono (L78 _ p0 _ hy38) (fun v' w' h => ⟨h.1.trans (congrArg Value.bool h15), h.2⟩)) ?_)
  intro w hI
  refine pu (.bool false) (by kernel_rfl) (pu (.bool false) (by kernel_rfl) (seq_on (by kernel_rfl) (s_loadK hI 0 2 [iv p1.num, iv p1.den] Try.isAgg51 Try.sizeOf51 rfl rfl rfl rfl ?_)))
  refine bindE hF (fun y39 hy40 hF => ?_)
  refine ifE hF (fun h16 hF => ?_) (fun h16 hF => ?_)
  ·
   refine seq_on (by kernel_rfl) (s_callv hI 78 [.agg #[iv p1.num, iv p1.den]] (.bool true) (by kernel_rfl) (Does.mono (L78 _ p1 _ hy40) (fun v' w' h => ⟨h.1.trans (congrArg Value.bool h16), h.2⟩)) ?_)
   intro w hI
   refine puo (.bool false) ⟨(by kernel_rfl), (by kernel_rfl)⟩ (pu (.bool false) (by kernel_rfl) (seq_nil (wp_condF rfl (wp_skip (wp_seq (rgn (by kernel_rfl) (seq_c (s_loadK hI 1 2 [iv p0.num, iv p0.den] Try.isAgg51 Try.sizeOf51 rfl rfl rfl rfl ?_))))))))
   refine seq_c (s_loadK hI 0 2 [iv p1.num, iv p1.den] Try.isAgg51 Try.sizeOf51 rfl rfl rfl rfl ?_)
   refine bindE hF (fun y43 hy44 hF => ?_)
   refine seq_c (s_callv hI 79 [.agg #[iv p0.num, iv p0.den], .agg #[iv p1.num, iv p1.den]] (iv y43) (by kernel_rfl) (L79 _ p0 p1 _ hy44) ?_)
   intro w hI
   refine pu (iv y43) (by kernel_rfl) (pu (iv 0) (by kernel_rfl) (seq_nil (wp_ret ?_)))
   replace hF := Option.some.inj hF; subst hF
   exact ⟨.tuple #[iv y43, iv 0], Ret.r2 rfl rfl rfl, ⟨rfl, hI.below⟩⟩
  ·
   refine seq_on (by kernel_rfl) (s_callv hI 78 [.agg #[iv p1.num, iv p1.den]] (.bool false) (by kernel_rfl) (Does.mono (L78 _ p1 _ hy40) (fun v' w' h => ⟨h.1.trans (congrArg Value.bool (Bool.eq_false_iff.2 h16)), h.2⟩)) ?_)
   intro w hI
   refine puo (.bool true) ⟨(by kernel_rfl), (by kernel_rfl)⟩ (pu (.bool true) (by kernel_rfl) (seq_nil (wp_condT rfl (wp_seq (rgn (by kernel_rfl) (pu (iv 0) (by kernel_rfl) (pu (iv 1) (by kernel_rfl) (seq_nil (wp_ret ?_)))))))))
   replace hF := Option.some.inj hF; subst hF
   exact ⟨.tuple #[iv 0, iv 1], Ret.r2 rfl rfl rfl, ⟨rfl, hI.below⟩⟩
 ·
  refine seq_c (s_callv hI 78 [.agg #[iv p0.num, iv p0.den]] (.bool false) (by kernel_rfl) (Does.mono (L78 _ p0 _ hy38) (fun v' w' h => ⟨h.1.trans (congrArg Value.bool (Bool.eq_false_iff.2 h15)), h.2⟩)) ?_)
  intro w hI
  refine pu (.bool true) (by kernel_rfl) (pu (.bool true) (by kernel_rfl) (of_ (by kernel_rfl) (of_ (by kernel_rfl) (of_ (by kernel_rfl) (pu (.bool true) (by kernel_rfl) (seq_nil (wp_condT rfl (wp_seq (rgn (by kernel_rfl) ?_)))))))))
  refine pu (iv 0) (by kernel_rfl) (pu (iv 1) (by kernel_rfl) (seq_nil (wp_ret ?_)))
  replace hF := Option.some.inj hF; subst hF
  exact ⟨.tuple #[iv 0, iv 1], Ret.r2 rfl rfl rfl, ⟨rfl, hI.below⟩⟩


theorem L53 (w0 : World) (p0 : Gn) (p1 : Gn) (r : Bool) (hF : F53 p0 p1 = some r) : Does Try.prog 53 [.agg #[.int .i64 p0.num, .int .i64 p0.den], .agg #[.int .i64 p1.num, .int .i64 p1.den]] w0 fun v w => v = .bool r ∧ Below w0.heap.size w0 w := by
 refine calls_of (n := 16) Try.func53 rfl Try.ntmps53 rfl ?_
 have hI := Inv.start w0
 unfold F53 at hF
 refine wp_seq (rgn (by kernel_rfl) (seq_c (s_boxI hI [iv p0.num, iv p0.den] rfl ?_)))
 intro b4 w hI
 refine seq_c (s_boxI hI [iv p1.num, iv p1.den] rfl ?_)
 intro b5 w hI
 refine pu (.bool false) (by kernel_rfl) (seq_nil (wp_seq (rgn (by kernel_rfl) (pu (.pointer (some ⟨b4, 0, none⟩)) (by kernel_rfl) (seq_c (s_load1 hI 1 (iv p0.num) Try.isAgg3 rfl rfl rfl ?_))))))
 refine pu (.pointer (some ⟨b5, 1, none⟩)) (by kernel_rfl) (seq_c (s_load1 hI 0 (iv p1.den) Try.isAgg3 rfl rfl rfl ?_))
 refine ckE hF (fun h10 hF => ?_)
 refine seq_c (s_mul rfl rfl h10 ?_)
 refine pu (.pointer (some ⟨b5, 0, none⟩)) (by kernel_rfl) (seq_c (s_load1 hI 0 (iv p1.num) Try.isAgg3 rfl rfl rfl ?_))
 refine pu (.pointer (some ⟨b4, 1, none⟩)) (by kernel_rfl) (seq_c (s_load1 hI 1 (iv p0.den) Try.isAgg3 rfl rfl rfl ?_))
 refine ckE hF (fun h11 hF => ?_)
 refine seq_c (s_mul rfl rfl h11 ?_)
 refine ifE hF (fun h12 hF => ?_) (fun h12 hF => ?_)
 ·
  refine seq_c (s_lss rfl rfl (fun _ => ?_) (fun h => absurd (a := (p0.num * p1.den) < (p1.num * p0.den)) h12 h))
  refine pu (.bool true) (by kernel_rfl) (seq_nil (wp_ret ?_))
  replace hF := Option.some.inj hF; subst hF
  exact ⟨.bool true, Ret.r1 rfl rfl, ⟨rfl, hI.below⟩⟩
 ·
  refine seq_c (s_lss rfl rfl (fun h => absurd (a := (p0.num * p1.den) < (p1.num * p0.den)) h h12) (fun _ => ?_))
  refine pu (.bool false) (by kernel_rfl) (seq_nil (wp_ret ?_))
  replace hF := Option.some.inj hF; subst hF
  exact ⟨.bool false, Ret.r1 rfl rfl, ⟨rfl, hI.below⟩⟩


theorem L80 (w0 : World) (p0 : Gn) (r : Bool) (hF : F80 p0 = some r) : Does Try.prog 80 [.agg #[.int .i64 p0.num, .int .i64 p0.den]] w0 fun v w => v = .bool r ∧ Below w0.heap.size w0 w := by
 refine calls_of (n := 11) Try.func80 rfl Try.ntmps80 rfl ?_
 have hI := Inv.start w0
 unfold F80 at hF
 refine wp_seq (rgn (by kernel_rfl) (seq_c (s_boxI hI [iv p0.num, iv p0.den] rfl ?_)))
 intro b11 w hI
 refine pu (.bool false) (by kernel_rfl) (seq_nil (wp_seq (rgn (by kernel_rfl) (pu (.pointer (some ⟨b11, 0, none⟩)) (by kernel_rfl) (seq_c (s_load1 hI 0 (iv p0.num) Try.isAgg3 rfl rfl rfl ?_))))))
 refine bindE hF (fun y17 hy18 hF => ?_)
 refine ifE hF (fun h4 hF => ?_) (fun h4 hF => ?_)
 ·
  refine seq_c (s_callv hI 61 [iv p0.num, iv 0, iv 1000000] (.bool true) (by kernel_rfl) (Does.mono (L61 _ p0.num 0 1000000 _ hy18) (fun v' w' h => ⟨h.1.trans (congrArg Value.bool h4), h.2⟩)) ?_)
  intro w hI
  refine pu (.bool true) (by kernel_rfl) (puo (.pointer (some ⟨b11, 1, none⟩)) ⟨(by kernel_rfl), (by kernel_rfl)⟩ (seq_on (by kernel_rfl) (s_load1 hI 0 (iv p0.den) Try.isAgg3 rfl rfl rfl ?_)))
  refine bindE hF (fun y19 hy20 hF => ?_)
  refine seq_on (by kernel_rfl) (s_callv hI 61 [iv p0.den, iv 1, iv 1000000] (.bool y19) (by kernel_rfl) (L61 _ p0.den 1 1000000 _ hy20) ?_)
  intro w hI
  refine pu (.bool y19) (by kernel_rfl) (pu (.bool y19) (by kernel_rfl) (seq_nil (wp_ret ?_)))
  replace hF := Option.some.inj hF; subst hF
  exact ⟨.bool y19, Ret.r1 rfl rfl, ⟨rfl, hI.below⟩⟩
 ·
  refine seq_c (s_callv hI 61 [iv p0.num, iv 0, iv 1000000] (.bool false) (by kernel_rfl) (Does.mono (L61 _ p0.num 0 1000000 _ hy18) (fun v' w' h => ⟨h.1.trans (congrArg Value.bool (Bool.eq_false_iff.2 h4)), h.2⟩)) ?_)
  intro w hI
  refine pu (.bool false) (by kernel_rfl) (of_ (by kernel_rfl) (of_ (by kernel_rfl) (of_ (by kernel_rfl) (pu (.bool false) (by kernel_rfl) (pu (.bool false) (by kernel_rfl) (seq_nil (wp_ret ?_)))))))
  replace hF := Option.some.inj hF; subst hF
  exact ⟨.bool false, Ret.r1 rfl rfl, ⟨rfl, hI.below⟩⟩


theorem L34 (w0 : World) (p0 : Gn) (p1 : Gn) (r : (Int × Int)) (hF : F34 p0 p1 = some r) : Does Try.prog 34 [.agg #[.int .i64 p0.num, .int .i64 p0.den], .agg #[.int .i64 p1.num, .int .i64 p1.den]] w0 fun v w => v = .tuple #[.int .i64 r.1, .int .i64 r.2] ∧ Below w0.heap.size w0 w := by
 refine calls_of (n := 20) Try.func34 rfl Try.ntmps34 rfl ?_
 have hI := Inv.start w0
 unfold F34 at hF
 refine wp_seq (rgn (by kernel_rfl) (seq_c (s_boxI hI [iv p0.num, iv p0.den] rfl ?_)))
 intro b35 w hI
 refine seq_c (s_boxI hI [iv p1.num, iv p1.den] rfl ?_)
 intro b36 w hI
 refine pu (iv 0) (by kernel_rfl) (pu (iv 0) (by kernel_rfl) (seq_nil (wp_seq (wp_seq (rgn (by kernel_rfl) (seq_c (s_loadK hI 1 2 [iv p0.num, iv p0.den] Try.isAgg51 Try.sizeOf51 rfl rfl rfl rfl ?_)))))))
 refine bindE hF (fun y49 hy50 hF => ?_)
 refine ifE hF (fun h23 hF => ?_) (fun h23 hF => ?_)
 ·
  refine seq_c (s_callv hI 80 [.agg #[iv p0.num, iv p0.den]] (.bool true) (by kernel_rfl) (Does.mono (L80 _ p0 _ hy50) (fun v' w' h => ⟨h.1.trans (congrArg Value.bool h23), h.2⟩)) ?_)
  intro w hI
  refine pu (.bool false) (by kernel_rfl) (pu (.bool false) (by kernel_rfl) (seq_on (by kernel_rfl) (s_loadK hI 0 2 [iv p1.num, iv p1.den] Try.isAgg51 Try.sizeOf51 rfl rfl rfl rfl ?_)))
  refine bindE hF (fun y51 hy52 hF => ?_)
  refine ifE hF (fun h24 hF => ?_) (fun h24 hF => ?_)
  ·
   refine seq_on (by kernel_rfl) (s_callv hI 80 [.agg #[iv p1.num, iv p1.den]] (.bool true) (by kernel_rfl) (Does.mono (L80 _ p1 _ hy52) (fun v' w' h => ⟨h.1.trans (congrArg Value.bool h24), h.2⟩)) ?_)
   intro w hI
   refine puo (.bool false) ⟨(by kernel_rfl), (by kernel_rfl)⟩ (pu (.bool false) (by kernel_rfl) (seq_nil (wp_condF rfl (wp_skip (wp_seq (wp_seq (rgn (by kernel_rfl) (seq_c (s_loadK hI 1 2 [iv p0.num, iv p0.den] Try.isAgg51 Try.sizeOf51 rfl rfl rfl rfl ?_)))))))))
   refine seq_c (s_loadK hI 0 2 [iv p1.num, iv p1.den] Try.isAgg51 Try.sizeOf51 rfl rfl rfl rfl ?_)
   refine bindE hF (fun y59 hy60 hF => ?_)
   refine ifE hF (fun h28 hF => ?_) (fun h28 hF => ?_)
   ·
    refine seq_c (s_callv hI 53 [.agg #[iv p0.num, iv p0.den], .agg #[iv p1.num, iv p1.den]] (.bool true) (by kernel_rfl) (Does.mono (L53 _ p0 p1 _ hy60) (fun v' w' h => ⟨h.1.trans (congrArg Value.bool h28), h.2⟩)) ?_)
    intro w hI
    refine seq_nil (wp_condT rfl (wp_seq (rgn (by kernel_rfl) (pu (iv (-1)) (by kernel_rfl) (pu (iv 0) (by kernel_rfl) (seq_nil (wp_ret ?_)))))))
    replace hF := Option.some.inj hF; subst hF
    exact ⟨.tuple #[iv (-1), iv 0], Ret.r2 rfl rfl rfl, ⟨rfl, hI.below⟩⟩
   ·
    refine seq_c (s_callv hI 53 [.agg #[iv p0.num, iv p0.den], .agg #[iv p1.num, iv p1.den]] (.bool false) (by kernel_rfl) (Does.mono (L53 _ p0 p1 _ hy60) (fun v' w' h => ⟨h.1.trans (congrArg Value.bool (Bool.eq_false_iff.2 h28)), h.2⟩)) ?_)
    intro w hI
    refine seq_nil (wp_condF rfl (wp_skip (wp_seq (wp_seq (rgn (by kernel_rfl) (seq_c (s_loadK hI 0 2 [iv p1.num, iv p1.den] Try.isAgg51 Try.sizeOf51 rfl rfl rfl rfl ?_)))))))
    refine seq_c (s_loadK hI 1 2 [iv p0.num, iv p0.den] Try.isAgg51 Try.sizeOf51 rfl rfl rfl rfl ?_)
    refine bindE hF (fun y67 hy68 hF => ?_)
    refine ifE hF (fun h32 hF => ?_) (fun h32 hF => ?_)
    ·
     refine seq_c (s_callv hI 53 [.agg #[iv p1.num, iv p1.den], .agg #[iv p0.num, iv p0.den]] (.bool true) (by kernel_rfl) (Does.mono (L53 _ p1 p0 _ hy68) (fun v' w' h => ⟨h.1.trans (congrArg Value.bool h32), h.2⟩)) ?_)
     intro w hI
     refine seq_nil (wp_condT rfl (wp_seq (rgn (by kernel_rfl) (pu (iv 1) (by kernel_rfl) (pu (iv 0) (by kernel_rfl) (seq_nil (wp_ret ?_)))))))
     replace hF := Option.some.inj hF; subst hF
     exact ⟨.tuple #[iv 1, iv 0], Ret.r2 rfl rfl rfl, ⟨rfl, hI.below⟩⟩
    ·
     refine seq_c (s_callv hI 53 [.agg #[iv p1.num, iv p1.den], .agg #[iv p0.num, iv p0.den]] (.bool false) (by kernel_rfl) (Does.mono (L53 _ p1 p0 _ hy68) (fun v' w' h => ⟨h.1.trans (congrArg Value.bool (Bool.eq_false_iff.2 h32)), h.2⟩)) ?_)
     intro w hI
     refine seq_nil (wp_condF rfl (wp_skip (wp_seq (rgn (by kernel_rfl) (pu (iv 0) (by kernel_rfl) (pu (iv 0) (by kernel_rfl) (seq_nil (wp_ret ?_))))))))
     replace hF := Option.some.inj hF; subst hF
     exact ⟨.tuple #[iv 0, iv 0], Ret.r2 rfl rfl rfl, ⟨rfl, hI.below⟩⟩
  ·
   refine seq_on (by kernel_rfl) (s_callv hI 80 [.agg #[iv p1.num, iv p1.den]] (.bool false) (by kernel_rfl) (Does.mono (L80 _ p1 _ hy52) (fun v' w' h => ⟨h.1.trans (congrArg Value.bool (Bool.eq_false_iff.2 h24)), h.2⟩)) ?_)
   intro w hI
   refine puo (.bool true) ⟨(by kernel_rfl), (by kernel_rfl)⟩ (pu (.bool true) (by kernel_rfl) (seq_nil (wp_condT rfl (wp_seq (rgn (by kernel_rfl) (pu (iv 0) (by kernel_rfl) (pu (iv 1) (by kernel_rfl) (seq_nil (wp_ret ?_)))))))))
   replace hF := Option.some.inj hF; subst hF
   exact ⟨.tuple #[iv 0, iv 1], Ret.r2 rfl rfl rfl, ⟨rfl, hI.below⟩⟩
 ·
  refine seq_c (s_callv hI 80 [.agg #[iv p0.num, iv p0.den]] (.bool false) (by kernel_rfl) (Does.mono (L80 _ p0 _ hy50) (fun v' w' h => ⟨h.1.trans (congrArg Value.bool (Bool.eq_false_iff.2 h23)), h.2⟩)) ?_)
  intro w hI
  refine pu (.bool true) (by kernel_rfl) (pu (.bool true) (by kernel_rfl) (of_ (by kernel_rfl) (of_ (by kernel_rfl) (of_ (by kernel_rfl) (pu (.bool true) (by kernel_rfl) (seq_nil (wp_condT rfl (wp_seq (rgn (by kernel_rfl) ?_)))))))))
  refine pu (iv 0) (by kernel_rfl) (pu (iv 1) (by kernel_rfl) (seq_nil (wp_ret ?_)))
  replace hF := Option.some.inj hF; subst hF
  exact ⟨.tuple #[iv 0, iv 1], Ret.r2 rfl rfl rfl, ⟨rfl, hI.below⟩⟩


theorem L4 (w0 : World) (Ap0_0 : Option Addr) (cp0_0 : Nat) (lp0_0 : List Ch) (Ap0_1 : Option Addr) (cp0_1 : Nat) (lp0_1 : List Ce) (p1_0 : Int) (p1_1 : Int) (p1_2 : Int) (p1_3 : Int) (p1_4 : Int) (p1_5 : Int) (p1_6 : Int) (p1_7 : Int) (Ap1_8 : Option Addr) (cp1_8 : Nat) (lp1_8 : List Int) (hCp0_0 : Cells w0 Ap0_0 (flat eCh lp0_0)) (hMp0_0 : lp0_0.length ≤ 9223372036854775807) (hKp0_0 : lp0_0.length ≤ cp0_0) (hCp0_1 : Cells w0 Ap0_1 (flat eCe lp0_1)) (hMp0_1 : lp0_1.length ≤ 9223372036854775807) (hKp0_1 : lp0_1.length ≤ cp0_1) (hCp1_8 : Cells w0 Ap1_8 (flat eInt lp1_8)) (hMp1_8 : lp1_8.length ≤ 9223372036854775807) (hKp1_8 : lp1_8.length ≤ cp1_8) (N : Nat) (r : Bool) (hF : F4 N lp0_0 lp0_1 p1_0 p1_1 p1_2 p1_3 p1_4 p1_5 p1_6 p1_7 lp1_8 = some r) : Does Try.prog 4 [.agg #[.slice Ap0_0 lp0_0.length cp0_0, .slice Ap0_1 lp0_1.length cp0_1], .agg #[.int .i64 p1_0, .int .i64 p1_1, .int .i64 p1_2, .int .i64 p1_3, .int .i64 p1_4, .int .i64 p1_5, .int .i64 p1_6, .int .i64 p1_7, .slice Ap1_8 lp1_8.length cp1_8]] w0 fun v w => v = .bool r ∧ Below w0.heap.size w0 w := by
 refine calls_of (n := 158) Try.func4 rfl Try.ntmps4 rfl ?_
 have hI := Inv.start w0
 unfold F4 at hF
 refine wp_seq (rgn (by kernel_rfl) (seq_c (s_boxI hI [.slice Ap0_0 lp0_0.length cp0_0, .slice Ap0_1 lp0_1.length cp0_1] rfl ?_)))
 intro b53 w hI
 refine seq_c (s_boxI hI [iv p1_0, iv p1_1, iv p1_2, iv p1_3, iv p1_4, iv p1_5, iv p1_6, iv p1_7, .slice Ap1_8 lp1_8.length cp1_8] rfl ?_)
 intro b54 w hI
 refine pu (.bool false) (by kernel_rfl) (seq_nil (wp_cutO (fun ρ w => ∃ (v57 : Bool), Agree ρ [(2, .pointer (some ⟨b53, 0, none⟩)), (3, .pointer (some ⟨b54, 0, none⟩)), (5, .bool v57)] ∧ Inv [] w0 w [(some b53, blk [.slice Ap0_0 lp0_0.length cp0_0, .slice Ap0_1 lp0_1.length cp0_1] 25), (some b54, blk [iv p1_0, iv p1_1, iv p1_2, iv p1_3, iv p1_4, iv p1_5, iv p1_6, iv p1_7, .slice Ap1_8 lp1_8.length cp1_8] 54)] ∧ F4j1 lp0_0 lp0_1 p1_0 p1_1 p1_2 p1_3 p1_4 p1_5 p1_6 p1_7 lp1_8 N v57 = some r) ?_ ?_))
 ·
  refine rgn (by kernel_rfl) (bindE hF (fun y103 hy104 hF => ?_))
  refine ifE hF (fun h44 hF => ?_) (fun h44 hF => ?_)
  ·
   refine seq_c (s_callv hI 11 [] (.bool true) (by kernel_rfl) (Does.mono (L11 _ N _ hy104) (fun v' w' h => ⟨h.1.trans (congrArg Value.bool h44), h.2⟩)) ?_)
   intro w hI
   refine pu (.bool true) (by kernel_rfl) (seq_nil ?_)
   exact .inl ⟨rfl, ⟨true, ⟨rfl, rfl, rfl, trivial⟩, hI.pickL [1, 0] (by decide) rfl, hF⟩⟩
  ·
   refine seq_c (s_callv hI 11 [] (.bool false) (by kernel_rfl) (Does.mono (L11 _ N _ hy104) (fun v' w' h => ⟨h.1.trans (congrArg Value.bool (Bool.eq_false_iff.2 h44)), h.2⟩)) ?_)
   intro w hI
   refine pu (.bool false) (by kernel_rfl) (seq_nil ?_)
   exact .inl ⟨rfl, ⟨false, ⟨rfl, rfl, rfl, trivial⟩, hI.pickL [1, 0] (by decide) rfl, hF⟩⟩
 ·intro ρ w hJ
  obtain ⟨v57, hag, hI, hF⟩ := hJ
  obtain ⟨ρ, rfl⟩ := hag.form; clear hag
  unfold F4j1 at hF
  refine wp_seq (rgn (by kernel_rfl) (seq_c (s_loadK hI 0 2 [.slice Ap0_0 lp0_0.length cp0_0, .slice Ap0_1 lp0_1.length cp0_1] Try.isAgg25 Try.sizeOf25 rfl rfl rfl rfl ?_)))
  refine pu (.pointer (some ⟨b54, 0, none⟩)) (by kernel_rfl) (seq_c (s_loadK hI 1 2 [iv p1_0, iv p1_1] Try.isAgg49 Try.sizeOf49 rfl rfl rfl rfl ?_))
  refine bindE hF (fun y61 hy62 hF => ?_)
  refine seq_c (s_callv hI 25 [.agg #[.slice Ap0_0 lp0_0.length cp0_0, .slice Ap0_1 lp0_1.length cp0_1], .agg #[iv p1_0, iv p1_1]] (.tuple #[.agg #[iv y61.1, iv y61.2.1], iv y61.2.2]) (by kernel_rfl) (L25 _ Ap0_0 cp0_0 lp0_0 Ap0_1 cp0_1 lp0_1 (⟨p1_0, p1_1⟩ : Dr) (hCp0_0.inv0 hI) hMp0_0 hKp0_0 (hCp0_1.inv0 hI) hMp0_1 hKp0_1 N _ hy62) ?_)
  intro w hI
  refine pu (.tuple #[.agg #[iv y61.1, iv y61.2.1], iv y61.2.2]) (by kernel_rfl) (pu (.agg #[iv y61.1, iv y61.2.1]) (by kernel_rfl) (pu (iv y61.2.2) (by kernel_rfl) (seq_c (s_allocI hI [iv 0, iv 0] Try.zeroValue28 rfl ?_))))
  intro b63 w hI
  refine seq_c (s_store hI 0 2 [iv y61.1, iv y61.2.1] Try.sizeOf28 rfl rfl rfl rfl rfl (Nat.le_of_ble_eq_true rfl) ?_)
  intro w hI
  refine pu (iv y61.2.2) (by kernel_rfl) (seq_nil (wp_seq (rgn (by kernel_rfl) (seq_c (s_loadK hI 1 2 [.slice Ap0_0 lp0_0.length cp0_0, .slice Ap0_1 lp0_1.length cp0_1] Try.isAgg25 Try.sizeOf25 rfl rfl rfl rfl ?_)))))
  refine pu (.pointer (some ⟨b54, 0, none⟩)) (by kernel_rfl) (seq_c (s_loadK hI 2 2 [iv p1_0, iv p1_1] Try.isAgg49 Try.sizeOf49 rfl rfl rfl rfl ?_))
  refine bindE hF (fun y67 hy68 hF => ?_)
  refine seq_c (s_callv hI 26 [.agg #[.slice Ap0_0 lp0_0.length cp0_0, .slice Ap0_1 lp0_1.length cp0_1], .agg #[iv p1_0, iv p1_1]] (.tuple #[.agg #[iv y67.1, iv y67.2.1], iv y67.2.2]) (by kernel_rfl) (L26 _ Ap0_0 cp0_0 lp0_0 Ap0_1 cp0_1 lp0_1 (⟨p1_0, p1_1⟩ : Dr) (hCp0_0.inv0 hI) hMp0_0 hKp0_0 (hCp0_1.inv0 hI) hMp0_1 hKp0_1 N _ hy68) ?_)
  intro w hI
  refine pu (.tuple #[.agg #[iv y67.1, iv y67.2.1], iv y67.2.2]) (by kernel_rfl) (pu (.agg #[iv y67.1, iv y67.2.1]) (by kernel_rfl) (pu (iv y67.2.2) (by kernel_rfl) (seq_c (s_allocI hI [iv 0, iv 0] Try.zeroValue28 rfl ?_))))
  intro b69 w hI
  refine seq_c (s_store hI 0 2 [iv y67.1, iv y67.2.1] Try.sizeOf28 rfl rfl rfl rfl rfl (Nat.le_of_ble_eq_true rfl) ?_)
  intro w hI
  refine pu (iv y67.2.2) (by kernel_rfl) (seq_nil (wp_seq (rgn (by kernel_rfl) (seq_c (s_loadK hI 2 2 [.slice Ap0_0 lp0_0.length cp0_0, .slice Ap0_1 lp0_1.length cp0_1] Try.isAgg25 Try.sizeOf25 rfl rfl rfl rfl ?_)))))
  refine pu (.pointer (some ⟨b54, 0, none⟩)) (by kernel_rfl) (seq_c (s_loadK hI 3 2 [iv p1_0, iv p1_1] Try.isAgg49 Try.sizeOf49 rfl rfl rfl rfl ?_))
  refine pu (.pointer (some ⟨b54, 2, none⟩)) (by kernel_rfl) (seq_c (s_loadK hI 3 2 [iv p1_2, iv p1_3] Try.isAgg49 Try.sizeOf49 rfl rfl rfl rfl ?_))
  refine bindE hF (fun y72 hy73 hF => ?_)
  refine seq_c (s_callv hI 27 [.agg #[.slice Ap0_0 lp0_0.length cp0_0, .slice Ap0_1 lp0_1.length cp0_1], .agg #[iv p1_0, iv p1_1], .agg #[iv p1_2, iv p1_3]] (.tuple #[iv y72.1, iv y72.2]) (by kernel_rfl) (L27 _ Ap0_0 cp0_0 lp0_0 Ap0_1 cp0_1 lp0_1 (⟨p1_0, p1_1⟩ : Dr) (⟨p1_2, p1_3⟩ : Dr) (hCp0_0.inv0 hI) hMp0_0 hKp0_0 (hCp0_1.inv0 hI) hMp0_1 hKp0_1 N _ hy73) ?_)
  intro w hI
  refine pu (.tuple #[iv y72.1, iv y72.2]) (by kernel_rfl) (pu (iv y72.1) (by kernel_rfl) (pu (iv y72.2) (by kernel_rfl) (pu (iv y72.1) (by kernel_rfl) (pu (iv y72.2) (by kernel_rfl) (seq_nil (wp_seq (rgn (by kernel_rfl) (seq_c (s_loadK hI 2 2 [.slice Ap0_0 lp0_0.length cp0_0, .slice Ap0_1 lp0_1.length cp0_1] Try.isAgg25 Try.sizeOf25 rfl rfl rfl rfl ?_)))))))))
  refine pu (.pointer (some ⟨b54, 0, none⟩)) (by kernel_rfl) (seq_c (s_loadK hI 3 2 [iv p1_0, iv p1_1] Try.isAgg49 Try.sizeOf49 rfl rfl rfl rfl ?_))
  refine pu (.pointer (some ⟨b54, 2, none⟩)) (by kernel_rfl) (seq_c (s_loadK hI 3 2 [iv p1_2, iv p1_3] Try.isAgg49 Try.sizeOf49 rfl rfl rfl rfl ?_))
  refine bindE hF (fun y76 hy77 hF => ?_)
  refine seq_c (s_callv hI 28 [.agg #[.slice Ap0_0 lp0_0.length cp0_0, .slice Ap0_1 lp0_1.length cp0_1], .agg #[iv p1_0, iv p1_1], .agg #[iv p1_2, iv p1_3]] (.tuple #[iv y76.1, iv y76.2]) (by kernel_rfl) (L28 _ Ap0_0 cp0_0 lp0_0 Ap0_1 cp0_1 lp0_1 (⟨p1_0, p1_1⟩ : Dr) (⟨p1_2, p1_3⟩ : Dr) (hCp0_0.inv0 hI) hMp0_0 hKp0_0 (hCp0_1.inv0 hI) hMp0_1 hKp0_1 N _ hy77) ?_)
  intro w hI
  refine pu (.tuple #[iv y76.1, iv y76.2]) (by kernel_rfl) (pu (iv y76.1) (by kernel_rfl) (pu (iv y76.2) (by kernel_rfl) (pu (iv y76.1) (by kernel_rfl) (pu (iv y76.2) (by kernel_rfl) (seq_nil (wp_seq (rgn (by kernel_rfl) (seq_c (s_loadK hI 2 2 [.slice Ap0_0 lp0_0.length cp0_0, .slice Ap0_1 lp0_1.length cp0_1] Try.isAgg25 Try.sizeOf25 rfl rfl rfl rfl ?_)))))))))
  refine pu (.pointer (some ⟨b54, 8, none⟩)) (by kernel_rfl) (seq_c (s_load1 hI 3 (.slice Ap1_8 lp1_8.length cp1_8) Try.isAgg52 rfl rfl rfl ?_))
  refine pu (.pointer (some ⟨b54, 0, none⟩)) (by kernel_rfl) (seq_c (s_loadK hI 3 2 [iv p1_0, iv p1_1] Try.isAgg49 Try.sizeOf49 rfl rfl rfl rfl ?_))
  refine bindE hF (fun y80 hy81 hF => ?_)
  refine seq_c (s_callv hI 29 [.agg #[.slice Ap0_0 lp0_0.length cp0_0, .slice Ap0_1 lp0_1.length cp0_1], .slice Ap1_8 lp1_8.length cp1_8, .agg #[iv p1_0, iv p1_1]] (.tuple #[iv y80.1, iv y80.2]) (by kernel_rfl) (L29 _ Ap0_0 cp0_0 lp0_0 Ap0_1 cp0_1 lp0_1 Ap1_8 cp1_8 lp1_8 (⟨p1_0, p1_1⟩ : Dr) (hCp0_0.inv0 hI) hMp0_0 hKp0_0 (hCp0_1.inv0 hI) hMp0_1 hKp0_1 (hCp1_8.inv0 hI) hMp1_8 hKp1_8 N _ hy81) ?_)
  intro w hI
  refine pu (.tuple #[iv y80.1, iv y80.2]) (by kernel_rfl) (pu (iv y80.1) (by kernel_rfl) (pu (iv y80.2) (by kernel_rfl) (pu (iv y80.1) (by kernel_rfl) (pu (iv y80.2) (by kernel_rfl) (seq_nil (wp_seq (rgn (by kernel_rfl) (seq_c (s_loadK hI 2 2 [.slice Ap0_0 lp0_0.length cp0_0, .slice Ap0_1 lp0_1.length cp0_1] Try.isAgg25 Try.sizeOf25 rfl rfl rfl rfl ?_)))))))))
  refine pu (.pointer (some ⟨b54, 8, none⟩)) (by kernel_rfl) (seq_c (s_load1 hI 3 (.slice Ap1_8 lp1_8.length cp1_8) Try.isAgg52 rfl rfl rfl ?_))
  refine pu (.pointer (some ⟨b54, 0, none⟩)) (by kernel_rfl) (seq_c (s_loadK hI 3 2 [iv p1_0, iv p1_1] Try.isAgg49 Try.sizeOf49 rfl rfl rfl rfl ?_))
  refine bindE hF (fun y84 hy85 hF => ?_)
  refine seq_c (s_callv hI 30 [.agg #[.slice Ap0_0 lp0_0.length cp0_0, .slice Ap0_1 lp0_1.length cp0_1], .slice Ap1_8 lp1_8.length cp1_8, .agg #[iv p1_0, iv p1_1]] (.tuple #[iv y84.1, iv y84.2]) (by kernel_rfl) (L30 _ Ap0_0 cp0_0 lp0_0 Ap0_1 cp0_1 lp0_1 Ap1_8 cp1_8 lp1_8 (⟨p1_0, p1_1⟩ : Dr) (hCp0_0.inv0 hI) hMp0_0 hKp0_0 (hCp0_1.inv0 hI) hMp0_1 hKp0_1 (hCp1_8.inv0 hI) hMp1_8 hKp1_8 N _ hy85) ?_)
  intro w hI
  refine pu (.tuple #[iv y84.1, iv y84.2]) (by kernel_rfl) (pu (iv y84.1) (by kernel_rfl) (pu (iv y84.2) (by kernel_rfl) (pu (iv y84.1) (by kernel_rfl) (pu (iv y84.2) (by kernel_rfl) (seq_nil (wp_seq (rgn (by kernel_rfl) (seq_c (s_loadK hI 2 2 [.slice Ap0_0 lp0_0.length cp0_0, .slice Ap0_1 lp0_1.length cp0_1] Try.isAgg25 Try.sizeOf25 rfl rfl rfl rfl ?_)))))))))
  refine pu (.pointer (some ⟨b54, 2, none⟩)) (by kernel_rfl) (seq_c (s_loadK hI 3 2 [iv p1_2, iv p1_3] Try.isAgg49 Try.sizeOf49 rfl rfl rfl rfl ?_))
  refine bindE hF (fun y88 hy89 hF => ?_)
  refine seq_c (s_callv hI 31 [.agg #[.slice Ap0_0 lp0_0.length cp0_0, .slice Ap0_1 lp0_1.length cp0_1], .agg #[iv p1_2, iv p1_3]] (.tuple #[iv y88.1, iv y88.2]) (by kernel_rfl) (L31 _ Ap0_0 cp0_0 lp0_0 Ap0_1 cp0_1 lp0_1 (⟨p1_2, p1_3⟩ : Dr) (hCp0_0.inv0 hI) hMp0_0 hKp0_0 (hCp0_1.inv0 hI) hMp0_1 hKp0_1 N _ hy89) ?_)
  intro w hI
  refine pu (.tuple #[iv y88.1, iv y88.2]) (by kernel_rfl) (pu (iv y88.1) (by kernel_rfl) (pu (iv y88.2) (by kernel_rfl) (pu (iv y88.1) (by kernel_rfl) (pu (iv y88.2) (by kernel_rfl) (seq_nil (wp_seq (rgn (by kernel_rfl) (seq_c (s_loadK hI 2 2 [.slice Ap0_0 lp0_0.length cp0_0, .slice Ap0_1 lp0_1.length cp0_1] Try.isAgg25 Try.sizeOf25 rfl rfl rfl rfl ?_)))))))))
  refine pu (.pointer (some ⟨b54, 2, none⟩)) (by kernel_rfl) (seq_c (s_loadK hI 3 2 [iv p1_2, iv p1_3] Try.isAgg49 Try.sizeOf49 rfl rfl rfl rfl ?_))
  refine bindE hF (fun y92 hy93 hF => ?_)
  refine seq_c (s_callv hI 32 [.agg #[.slice Ap0_0 lp0_0.length cp0_0, .slice Ap0_1 lp0_1.length cp0_1], .agg #[iv p1_2, iv p1_3]] (.tuple #[iv y92.1, iv y92.2]) (by kernel_rfl) (L32 _ Ap0_0 cp0_0 lp0_0 Ap0_1 cp0_1 lp0_1 (⟨p1_2, p1_3⟩ : Dr) (hCp0_0.inv0 hI) hMp0_0 hKp0_0 (hCp0_1.inv0 hI) hMp0_1 hKp0_1 N _ hy93) ?_)
  intro w hI
  refine pu (.tuple #[iv y92.1, iv y92.2]) (by kernel_rfl) (pu (iv y92.1) (by kernel_rfl) (pu (iv y92.2) (by kernel_rfl) (pu (iv y92.1) (by kernel_rfl) (pu (iv y92.2) (by kernel_rfl) (seq_nil (wp_seq (rgn (by kernel_rfl) (pu (.pointer (some ⟨b54, 4, none⟩)) (by kernel_rfl) (seq_c (s_loadK hI 3 2 [iv p1_4, iv p1_5] Try.isAgg51 Try.sizeOf51 rfl rfl rfl rfl ?_))))))))))
  refine pu (.pointer (some ⟨b54, 6, none⟩)) (by kernel_rfl) (seq_c (s_loadK hI 3 2 [iv p1_6, iv p1_7] Try.isAgg51 Try.sizeOf51 rfl rfl rfl rfl ?_))
  refine bindE hF (fun y96 hy97 hF => ?_)
  refine seq_c (s_callv hI 33 [.agg #[iv p1_4, iv p1_5], .agg #[iv p1_6, iv p1_7]] (.tuple #[iv y96.1, iv y96.2]) (by kernel_rfl) (L33 _ (⟨p1_4, p1_5⟩ : Gn) (⟨p1_6, p1_7⟩ : Gn) _ hy97) ?_)
  intro w hI
  refine pu (.tuple #[iv y96.1, iv y96.2]) (by kernel_rfl) (pu (iv y96.1) (by kernel_rfl) (pu (iv y96.2) (by kernel_rfl) (pu (iv y96.1) (by kernel_rfl) (pu (iv y96.2) (by kernel_rfl) (seq_nil (wp_seq (rgn (by kernel_rfl) (pu (.pointer (some ⟨b54, 4, none⟩)) (by kernel_rfl) (seq_c (s_loadK hI 3 2 [iv p1_4, iv p1_5] Try.isAgg51 Try.sizeOf51 rfl rfl rfl rfl ?_))))))))))
  refine pu (.pointer (some ⟨b54, 6, none⟩)) (by kernel_rfl) (seq_c (s_loadK hI 3 2 [iv p1_6, iv p1_7] Try.isAgg51 Try.sizeOf51 rfl rfl rfl rfl ?_))
  refine bindE hF (fun y100 hy101 hF => ?_)
  refine seq_c (s_callv hI 34 [.agg #[iv p1_4, iv p1_5], .agg #[iv p1_6, iv p1_7]] (.tuple #[iv y100.1, iv y100.2]) (by kernel_rfl) (L34 _ (⟨p1_4, p1_5⟩ : Gn) (⟨p1_6, p1_7⟩ : Gn) _ hy101) ?_)
  intro w hI
  refine pu (.tuple #[iv y100.1, iv y100.2]) (by kernel_rfl) (pu (iv y100.1) (by kernel_rfl) (pu (iv y100.2) (by kernel_rfl) (pu (iv y100.1) (by kernel_rfl) (pu (iv y100.2) (by kernel_rfl) (seq_nil (wp_seq ?_))))))
  have hG := hF; rcases Bool.eq_false_or_eq_true v57 with rfl | rfl
  ·
   have hF := hG; clear hG
   refine ifE hF (fun _ hF => ?_) (fun h => absurd rfl h)
   refine rgn (by kernel_rfl) (pu (.bool true) (by kernel_rfl) (pu (.bool true) (by kernel_rfl) (seq_on (by kernel_rfl) (s_loadK hI 1 2 [iv y61.1, iv y61.2.1] Try.isAgg28 Try.sizeOf28 rfl rfl rfl rfl ?_))))
   refine seq_on (by kernel_rfl) (s_loadK hI 0 2 [iv y67.1, iv y67.2.1] Try.isAgg28 Try.sizeOf28 rfl rfl rfl rfl ?_)
   refine ifE hF (fun h34 hF => ?_) (fun h34 hF => ?_)
   ·
    refine seq_on (by kernel_rfl) (s_eqlA (b := decide (y61.1 = y67.1) && decide (y61.2.1 = y67.2.1)) rfl rfl (by kernel_rfl) (fun w => eq28 _ y61.1 y61.2.1 y67.1 y67.2.1 w) (fun _ => ?_) (fun h => absurd (a := (decide (y61.1 = y67.1) && decide (y61.2.1 = y67.2.1)) = true) h34 h))
    refine pu (.bool true) (by kernel_rfl) (pu (.bool true) (by kernel_rfl) (puo (iv y61.2.2) ⟨(by kernel_rfl), (by kernel_rfl)⟩ (puo (iv y67.2.2) ⟨(by kernel_rfl), (by kernel_rfl)⟩ (ifE hF (fun h35 hF => ?_) (fun h35 hF => ?_)))))
    ·
     refine seq_on (by kernel_rfl) (s_eql rfl rfl (fun _ => ?_) (fun h => absurd (a := y61.2.2 = y67.2.2) h35 h))
     refine pu (.bool true) (by kernel_rfl) (pu (.bool true) (by kernel_rfl) (puo (iv y72.1) ⟨(by kernel_rfl), (by kernel_rfl)⟩ (puo (iv y76.1) ⟨(by kernel_rfl), (by kernel_rfl)⟩ (ifE hF (fun h36 hF => ?_) (fun h36 hF => ?_)))))
     ·
      refine seq_on (by kernel_rfl) (s_eql rfl rfl (fun _ => ?_) (fun h => absurd (a := y72.1 = y76.1) h36 h))
      refine pu (.bool true) (by kernel_rfl) (pu (.bool true) (by kernel_rfl) (puo (iv y72.2) ⟨(by kernel_rfl), (by kernel_rfl)⟩ (puo (iv y76.2) ⟨(by kernel_rfl), (by kernel_rfl)⟩ (ifE hF (fun h37 hF => ?_) (fun h37 hF => ?_)))))
      ·
       refine seq_on (by kernel_rfl) (s_eql rfl rfl (fun _ => ?_) (fun h => absurd (a := y72.2 = y76.2) h37 h))
       refine pu (.bool true) (by kernel_rfl) (pu (.bool true) (by kernel_rfl) (puo (iv y80.1) ⟨(by kernel_rfl), (by kernel_rfl)⟩ (puo (iv y84.1) ⟨(by kernel_rfl), (by kernel_rfl)⟩ (ifE hF (fun h38 hF => ?_) (fun h38 hF => ?_)))))
       ·
        refine seq_on (by kernel_rfl) (s_eql rfl rfl (fun _ => ?_) (fun h => absurd (a := y80.1 = y84.1) h38 h))
        refine pu (.bool true) (by kernel_rfl) (pu (.bool true) (by kernel_rfl) (puo (iv y80.2) ⟨(by kernel_rfl), (by kernel_rfl)⟩ (puo (iv y84.2) ⟨(by kernel_rfl), (by kernel_rfl)⟩ (ifE hF (fun h39 hF => ?_) (fun h39 hF => ?_)))))
        ·
         refine seq_on (by kernel_rfl) (s_eql rfl rfl (fun _ => ?_) (fun h => absurd (a := y80.2 = y84.2) h39 h))
         refine pu (.bool true) (by kernel_rfl) (pu (.bool true) (by kernel_rfl) (puo (iv y88.1) ⟨(by kernel_rfl), (by kernel_rfl)⟩ (puo (iv y92.1) ⟨(by kernel_rfl), (by kernel_rfl)⟩ (ifE hF (fun h40 hF => ?_) (fun h40 hF => ?_)))))
         ·
          refine seq_on (by kernel_rfl) (s_eql rfl rfl (fun _ => ?_) (fun h => absurd (a := y88.1 = y92.1) h40 h))
          refine pu (.bool true) (by kernel_rfl) (pu (.bool true) (by kernel_rfl) (puo (iv y88.2) ⟨(by kernel_rfl), (by kernel_rfl)⟩ (puo (iv y92.2) ⟨(by kernel_rfl), (by kernel_rfl)⟩ (ifE hF (fun h41 hF => ?_) (fun h41 hF => ?_)))))
          ·
           refine seq_on (by kernel_rfl) (s_eql rfl rfl (fun _ => ?_) (fun h => absurd (a := y88.2 = y92.2) h41 h))
           refine pu (.bool true) (by kernel_rfl) (pu (.bool true) (by kernel_rfl) (puo (iv y96.1) ⟨(by kernel_rfl), (by kernel_rfl)⟩ (puo (iv y100.1) ⟨(by kernel_rfl), (by kernel_rfl)⟩ (ifE hF (fun h42 hF => ?_) (fun h42 hF => ?_)))))
           ·
            refine seq_on (by kernel_rfl) (s_eql rfl rfl (fun _ => ?_) (fun h => absurd (a := y96.1 = y100.1) h42 h))
            refine pu (.bool true) (by kernel_rfl) (pu (.bool true) (by kernel_rfl) (puo (iv y96.2) ⟨(by kernel_rfl), (by kernel_rfl)⟩ (puo (iv y100.2) ⟨(by kernel_rfl), (by kernel_rfl)⟩ (ifE hF (fun h43 hF => ?_) (fun h43 hF => ?_)))))
            ·
             refine seq_on (by kernel_rfl) (s_eql rfl rfl (fun _ => ?_) (fun h => absurd (a := y96.2 = y100.2) h43 h))
             refine pu (.bool true) (by kernel_rfl) (pu (.bool true) (by kernel_rfl) (seq_nil (wp_ret ?_)))
             replace hF := Option.some.inj hF; subst hF
             exact ⟨.bool true, Ret.r1 rfl rfl, ⟨rfl, hI.below⟩⟩
            ·
             refine seq_on (by kernel_rfl) (s_eql rfl rfl (fun h => absurd (a := y96.2 = y100.2) h h43) (fun _ => ?_))
             refine pu (.bool false) (by kernel_rfl) (pu (.bool false) (by kernel_rfl) (seq_nil (wp_ret ?_)))
             replace hF := Option.some.inj hF; subst hF
             exact ⟨.bool false, Ret.r1 rfl rfl, ⟨rfl, hI.below⟩⟩
           ·
            refine seq_on (by kernel_rfl) (s_eql rfl rfl (fun h => absurd (a := y96.1 = y100.1) h h42) (fun _ => ?_))
            refine pu (.bool false) (by kernel_rfl) (pu (.bool false) (by kernel_rfl) (of_ (by kernel_rfl) (of_ (by kernel_rfl) (of_ (by kernel_rfl) (pu (.bool false) (by kernel_rfl) (pu (.bool false) (by kernel_rfl) (seq_nil (wp_ret ?_))))))))
            replace hF := Option.some.inj hF; subst hF
            exact ⟨.bool false, Ret.r1 rfl rfl, ⟨rfl, hI.below⟩⟩
          ·
           refine seq_on (by kernel_rfl) (s_eql rfl rfl (fun h => absurd (a := y88.2 = y92.2) h h41) (fun _ => ?_))
           refine pu (.bool false) (by kernel_rfl) (pu (.bool false) (by kernel_rfl) (of_ (by kernel_rfl) (of_ (by kernel_rfl) (of_ (by kernel_rfl) (pu (.bool false) (by kernel_rfl) (pu (.bool false) (by kernel_rfl) (of_ (by kernel_rfl) (of_ (by kernel_rfl) (of_ (by kernel_rfl) ?_)))))))))
           refine pu (.bool false) (by kernel_rfl) (pu (.bool false) (by kernel_rfl) (seq_nil (wp_ret ?_)))
           replace hF := Option.some.inj hF; subst hF
           exact ⟨.bool false, Ret.r1 rfl rfl, ⟨rfl, hI.below⟩⟩
         ·
          refine seq_on (by kernel_rfl) (s_eql rfl rfl (fun h => absurd (a := y88.1 = y92.1) h h40) (fun _ => ?_))
          refine pu (.bool false) (by kernel_rfl) (pu (.bool false) (by kernel_rfl) (of_ (by kernel_rfl) (of_ (by kernel_rfl) (of_ (by kernel_rfl) (pu (.bool false) (by kernel_rfl) (pu (.bool false) (by kernel_rfl) (of_ (by kernel_rfl) (of_ (by kernel_rfl) (of_ (by kernel_rfl) ?_)))))))))
          refine pu (.bool false) (by kernel_rfl) (pu (.bool false) (by kernel_rfl) (of_ (by kernel_rfl) (of_ (by kernel_rfl) (of_ (by kernel_rfl) (pu (.bool false) (by kernel_rfl) (pu (.bool false) (by kernel_rfl) (seq_nil (wp_ret ?_))))))))
          replace hF := Option.some.inj hF; subst hF
          exact ⟨.bool false, Ret.r1 rfl rfl, ⟨rfl, hI.below⟩⟩
        ·
         refine seq_on (by kernel_rfl) (s_eql rfl rfl (fun h => absurd (a := y80.2 = y84.2) h h39) (fun _ => ?_))
         refine pu (.bool false) (by kernel_rfl) (pu (.bool false) (by kernel_rfl) (of_ (by kernel_rfl) (of_ (by kernel_rfl) (of_ (by kernel_rfl) (pu (.bool false) (by kernel_rfl) (pu (.bool false) (by kernel_rfl) (of_ (by kernel_rfl) (of_ (by kernel_rfl) (of_ (by kernel_rfl) ?_)))))))))
         refine pu (.bool false) (by kernel_rfl) (pu (.bool false) (by kernel_rfl) (of_ (by kernel_rfl) (of_ (by kernel_rfl) (of_ (by kernel_rfl) (pu (.bool false) (by kernel_rfl) (pu (.bool false) (by kernel_rfl) (of_ (by kernel_rfl) (of_ (by kernel_rfl) (of_ (by kernel_rfl) ?_)))))))))
         refine pu (.bool false) (by kernel_rfl) (pu (.bool false) (by kernel_rfl) (seq_nil (wp_ret ?_)))
         replace hF := Option.some.inj hF; subst hF
         exact ⟨.bool false, Ret.r1 rfl rfl, ⟨rfl, hI.below⟩⟩
       ·
        refine seq_on (by kernel_rfl) (s_eql rfl rfl (fun h => absurd (a := y80.1 = y84.1) h h38) (fun _ => ?_))
        refine pu (.bool false) (by kernel_rfl) (pu (.bool false) (by kernel_rfl) (of_ (by kernel_rfl) (of_ (by kernel_rfl) (of_ (by kernel_rfl) (pu (.bool false) (by kernel_rfl) (pu (.bool false) (by kernel_rfl) (of_ (by kernel_rfl) (of_ (by kernel_rfl) (of_ (by kernel_rfl) ?_)))))))))
        refine pu (.bool false) (by kernel_rfl) (pu (.bool false) (by kernel_rfl) (of_ (by kernel_rfl) (of_ (by kernel_rfl) (of_ (by kernel_rfl) (pu (.bool false) (by kernel_rfl) (pu (.bool false) (by kernel_rfl) (of_ (by kernel_rfl) (of_ (by kernel_rfl) (of_ (by kernel_rfl) ?_)))))))))
        refine pu (.bool false) (by kernel_rfl) (pu (.bool false) (by kernel_rfl) (of_ (by kernel_rfl) (of_ (by kernel_rfl) (of_ (by kernel_rfl) (pu (.bool false) (by kernel_rfl) (pu (.bool false) (by kernel_rfl) (seq_nil (wp_ret ?_))))))))
        replace hF := Option.some.inj hF; subst hF
        exact ⟨.bool false, Ret.r1 rfl rfl, ⟨rfl, hI.below⟩⟩
      ·
       refine seq_on (by kernel_rfl) (s_eql rfl rfl (fun h => absurd (a := y72.2 = y76.2) h h37) (fun _ => ?_))
       refine pu (.bool false) (by kernel_rfl) (pu (.bool false) (by kernel_rfl) (of_ (by kernel_rfl) (of_ (by kernel_rfl) (of_ (by kernel_rfl) (pu (.bool false) (by kernel_rfl) (pu (.bool false) (by kernel_rfl) (of_ (by kernel_rfl) (of_ (by kernel_rfl) (of_ (by kernel_rfl) ?_)))))))))
       refine pu (.bool false) (by kernel_rfl) (pu (.bool false) (by kernel_rfl) (of_ (by kernel_rfl) (of_ (by kernel_rfl) (of_ (by kernel_rfl) (pu (.bool false) (by kernel_rfl) (pu (.bool false) (by kernel_rfl) (of_ (by kernel_rfl) (of_ (by kernel_rfl) (of_ (by kernel_rfl) ?_)))))))))
       refine pu (.bool false) (by kernel_rfl) (pu (.bool false) (by kernel_rfl) (of_ (by kernel_rfl) (of_ (by kernel_rfl) (of_ (by kernel_rfl) (pu (.bool false) (by kernel_rfl) (pu (.bool false) (by kernel_rfl) (of_ (by kernel_rfl) (of_ (by kernel_rfl) (of_ (by kernel_rfl) ?_)))))))))
       refine pu (.bool false) (by kernel_rfl) (pu (.bool false) (by kernel_rfl) (seq_nil (wp_ret ?_)))
       replace hF := Option.some.inj hF; subst hF
       exact ⟨.bool false, Ret.r1 rfl rfl, ⟨rfl, hI.below⟩⟩
     ·
      refine seq_on (by kernel_rfl) (s_eql rfl rfl (fun h => absurd (a := y72.1 = y76.1) h h36) (fun _ => ?_))
      refine pu (.bool false) (by kernel_rfl) (pu (.bool false) (by kernel_rfl) (of_ (by kernel_rfl) (of_ (by kernel_rfl) (of_ (by kernel_rfl) (pu (.bool false) (by kernel_rfl) (pu (.bool false) (by kernel_rfl) (of_ (by kernel_rfl) (of_ (by kernel_rfl) (of_ (by kernel_rfl) ?_)))))))))
      refine pu (.bool false) (by kernel_rfl) (pu (.bool false) (by kernel_rfl) (of_ (by kernel_rfl) (of_ (by kernel_rfl) (of_ (by kernel_rfl) (pu (.bool false) (by kernel_rfl) (pu (.bool false) (by kernel_rfl) (of_ (by kernel_rfl) (of_ (by kernel_rfl) (of_ (by kernel_rfl) ?_)))))))))
      refine pu (.bool false) (by kernel_rfl) (pu (.bool false) (by kernel_rfl) (of_ (by kernel_rfl) (of_ (by kernel_rfl) (of_ (by kernel_rfl) (pu (.bool false) (by kernel_rfl) (pu (.bool false) (by kernel_rfl) (of_ (by kernel_rfl) (of_ (by kernel_rfl) (of_ (by kernel_rfl) ?_)))))))))
      refine pu (.bool false) (by kernel_rfl) (pu (.bool false) (by kernel_rfl) (of_ (by kernel_rfl) (of_ (by kernel_rfl) (of_ (by kernel_rfl) (pu (.bool false) (by kernel_rfl) (pu (.bool false) (by kernel_rfl) (seq_nil (wp_ret ?_))))))))
      replace hF := Option.some.inj hF; subst hF
      exact ⟨.bool false, Ret.r1 rfl rfl, ⟨rfl, hI.below⟩⟩
    ·
     refine seq_on (by kernel_rfl) (s_eql rfl rfl (fun h => absurd (a := y61.2.2 = y67.2.2) h h35) (fun _ => ?_))
     refine pu (.bool false) (by kernel_rfl) (pu (.bool false) (by kernel_rfl) (of_ (by kernel_rfl) (of_ (by kernel_rfl) (of_ (by kernel_rfl) (pu (.bool false) (by kernel_rfl) (pu (.bool false) (by kernel_rfl) (of_ (by kernel_rfl) (of_ (by kernel_rfl) (of_ (by kernel_rfl) ?_)))))))))
     refine pu (.bool false) (by kernel_rfl) (pu (.bool false) (by kernel_rfl) (of_ (by kernel_rfl) (of_ (by kernel_rfl) (of_ (by kernel_rfl) (pu (.bool false) (by kernel_rfl) (pu (.bool false) (by kernel_rfl) (of_ (by kernel_rfl) (of_ (by kernel_rfl) (of_ (by kernel_rfl) ?_)))))))))
     refine pu (.bool false) (by kernel_rfl) (pu (.bool false) (by kernel_rfl) (of_ (by kernel_rfl) (of_ (by kernel_rfl) (of_ (by kernel_rfl) (pu (.bool false) (by kernel_rfl) (pu (.bool false) (by kernel_rfl) (of_ (by kernel_rfl) (of_ (by kernel_rfl) (of_ (by kernel_rfl) ?_)))))))))
     refine pu (.bool false) (by kernel_rfl) (pu (.bool false) (by kernel_rfl) (of_ (by kernel_rfl) (of_ (by kernel_rfl) (of_ (by kernel_rfl) (pu (.bool false) (by kernel_rfl) (pu (.bool false) (by kernel_rfl) (of_ (by kernel_rfl) (of_ (by kernel_rfl) (of_ (by kernel_rfl) ?_)))))))))
     refine pu (.bool false) (by kernel_rfl) (pu (.bool false) (by kernel_rfl) (seq_nil (wp_ret ?_)))
     replace hF := Option.some.inj hF; subst hF
     exact ⟨.bool false, Ret.r1 rfl rfl, ⟨rfl, hI.below⟩⟩
   ·
    refine seq_on (by kernel_rfl) (s_eqlA (b := decide (y61.1 = y67.1) && decide (y61.2.1 = y67.2.1)) rfl rfl (by kernel_rfl) (fun w => eq28 _ y61.1 y61.2.1 y67.1 y67.2.1 w) (fun h => absurd (a := (decide (y61.1 = y67.1) && decide (y61.2.1 = y67.2.1)) = true) h h34) (fun _ => ?_))
    refine pu (.bool false) (by kernel_rfl) (pu (.bool false) (by kernel_rfl) (of_ (by kernel_rfl) (of_ (by kernel_rfl) (of_ (by kernel_rfl) (pu (.bool false) (by kernel_rfl) (pu (.bool false) (by kernel_rfl) (of_ (by kernel_rfl) (of_ (by kernel_rfl) (of_ (by kernel_rfl) ?_)))))))))
    refine pu (.bool false) (by kernel_rfl) (pu (.bool false) (by kernel_rfl) (of_ (by kernel_rfl) (of_ (by kernel_rfl) (of_ (by kernel_rfl) (pu (.bool false) (by kernel_rfl) (pu (.bool false) (by kernel_rfl) (of_ (by kernel_rfl) (of_ (by kernel_rfl) (of_ (by kernel_rfl) ?_)))))))))
    refine pu (.bool false) (by kernel_rfl) (pu (.bool false) (by kernel_rfl) (of_ (by kernel_rfl) (of_ (by kernel_rfl) (of_ (by kernel_rfl) (pu (.bool false) (by kernel_rfl) (pu (.bool false) (by kernel_rfl) (of_ (by kernel_rfl) (of_ (by kernel_rfl) (of_ (by kernel_rfl) ?_)))))))))
    refine pu (.bool false) (by kernel_rfl) (pu (.bool false) (by kernel_rfl) (of_ (by kernel_rfl) (of_ (by kernel_rfl) (of_ (by kernel_rfl) (pu (.bool false) (by kernel_rfl) (pu (.bool false) (by kernel_rfl) (of_ (by kernel_rfl) (of_ (by kernel_rfl) (of_ (by kernel_rfl) ?_)))))))))
    refine pu (.bool false) (by kernel_rfl) (pu (.bool false) (by kernel_rfl) (of_ (by kernel_rfl) (of_ (by kernel_rfl) (of_ (by kernel_rfl) (pu (.bool false) (by kernel_rfl) (pu (.bool false) (by kernel_rfl) (seq_nil (wp_ret ?_))))))))
    replace hF := Option.some.inj hF; subst hF
    exact ⟨.bool false, Ret.r1 rfl rfl, ⟨rfl, hI.below⟩⟩
  ·
   have hF := hG; clear hG
   refine ifE hF (fun h => absurd h (by decide)) (fun _ hF => ?_)
   refine rgn (by kernel_rfl) (pu (.bool false) (by kernel_rfl) (pu (.bool false) (by kernel_rfl) (of_ (by kernel_rfl) (of_ (by kernel_rfl) (of_ (by kernel_rfl) (pu (.bool false) (by kernel_rfl) (pu (.bool false) (by kernel_rfl) (of_ (by kernel_rfl) (of_ (by kernel_rfl) ?_)))))))))
   refine of_ (by kernel_rfl) (pu (.bool false) (by kernel_rfl) (pu (.bool false) (by kernel_rfl) (of_ (by kernel_rfl) (of_ (by kernel_rfl) (of_ (by kernel_rfl) (pu (.bool false) (by kernel_rfl) (pu (.bool false) (by kernel_rfl) (of_ (by kernel_rfl) (of_ (by kernel_rfl) ?_)))))))))
   refine of_ (by kernel_rfl) (pu (.bool false) (by kernel_rfl) (pu (.bool false) (by kernel_rfl) (of_ (by kernel_rfl) (of_ (by kernel_rfl) (of_ (by kernel_rfl) (pu (.bool false) (by kernel_rfl) (pu (.bool false) (by kernel_rfl) (of_ (by kernel_rfl) (of_ (by kernel_rfl) ?_)))))))))
   refine of_ (by kernel_rfl) (pu (.bool false) (by kernel_rfl) (pu (.bool false) (by kernel_rfl) (of_ (by kernel_rfl) (of_ (by kernel_rfl) (of_ (by kernel_rfl) (pu (.bool false) (by kernel_rfl) (pu (.bool false) (by kernel_rfl) (of_ (by kernel_rfl) (of_ (by kernel_rfl) ?_)))))))))
   refine of_ (by kernel_rfl) (pu (.bool false) (by kernel_rfl) (pu (.bool false) (by kernel_rfl) (of_ (by kernel_rfl) (of_ (by kernel_rfl) (of_ (by kernel_rfl) (pu (.bool false) (by kernel_rfl) (pu (.bool false) (by kernel_rfl) (of_ (by kernel_rfl) (of_ (by kernel_rfl) ?_)))))))))
   refine of_ (by kernel_rfl) (pu (.bool false) (by kernel_rfl) (pu (.bool false) (by kernel_rfl) (seq_nil (wp_ret ?_))))
   replace hF := Option.some.inj hF; subst hF
   exact ⟨.bool false, Ret.r1 rfl rfl, ⟨rfl, hI.below⟩⟩


end Go.K
