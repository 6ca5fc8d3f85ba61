/- That the functions do what the pure definitions say: walks, as tools/lift.py writes them. No condition. -/
import Derived.Test.YtofnbcfjdngakaaPWf
namespace Go.K
open Go.Proofs Go.RowKit
set_option linter.unusedVariables false
set_option linter.unusedSimpArgs false
set_option maxRecDepth 100000
attribute [local irreducible] Seq Step CallV AnyE opX
theorem L45 (w0 : World) (p0_0 : Int) (Ap0_1 : Option Addr) (cp0_1 : Nat) (lp0_1 : List Cm) (Ap1 : Option Addr) (cp1 : Nat) (lp1 : List Int) (hCp0_1 : Cells w0 Ap0_1 (flat eCm lp0_1)) (hMp0_1 : lp0_1.length ≤ 9223372036854775807) (hKp0_1 : lp0_1.length ≤ cp0_1) (hCp1 : Cells w0 Ap1 (flat eInt lp1)) (hMp1 : lp1.length ≤ 9223372036854775807) (hKp1 : lp1.length ≤ cp1) (N : Nat) (r : (Bool × Int)) (hF : F45 N p0_0 lp0_1 lp1 = some r) : Does Try.prog 45 [.agg #[.int .i64 p0_0, .slice Ap0_1 lp0_1.length cp0_1], .slice Ap1 lp1.length cp1] w0 fun v w => v = .tuple #[.bool r.1, .int .i64 r.2] ∧ Below w0.heap.size w0 w := by
 refine calls_of (n := 22) Try.func45 rfl Try.ntmps45 rfl ?_
 have hI := Inv.start w0
 unfold F45 at hF
 refine wp_seq (rgn (by kernel_rfl) (seq_c (s_boxI hI [iv p0_0, .slice Ap0_1 lp0_1.length cp0_1] rfl ?_)))
 intro b20 w hI
 refine pu (.bool false) (by kernel_rfl) (pu (iv 0) (by kernel_rfl) (seq_nil (wp_seq (rgn (by kernel_rfl) (seq_c (s_loadK hI 0 2 [iv p0_0, .slice Ap0_1 lp0_1.length cp0_1] Try.isAgg24 Try.sizeOf24 rfl rfl rfl rfl ?_))))))
 refine pu (.slice Ap1 lp1.length cp1) (by kernel_rfl) (bindE hF (fun y23 hy24 hF => ?_))
 refine seq_c (s_callv hI 88 [.agg #[iv p0_0, .slice Ap0_1 lp0_1.length cp0_1], .slice Ap1 lp1.length cp1] (iv y23) (by kernel_rfl) (L88 _ p0_0 Ap0_1 cp0_1 lp0_1 Ap1 cp1 lp1 (hCp0_1.inv0 hI) hMp0_1 hKp0_1 (hCp1.inv0 hI) hMp1 hKp1 N _ hy24) ?_)
 intro w hI
 refine pu (iv y23) (by kernel_rfl) (seq_nil (wp_seq (wp_seq (rgn (by kernel_rfl) (pu (iv y23) (by kernel_rfl) (ifE hF (fun h8 hF => ?_) (fun h8 hF => ?_)))))))
 ·
  refine seq_c (s_neq rfl rfl (fun h => absurd (a := y23 = 0) h8 h) (fun _ => ?_))
  refine seq_nil (wp_condF rfl (wp_skip (wp_seq (rgn (by kernel_rfl) (seq_c (s_loadK hI 0 2 [iv p0_0, .slice Ap0_1 lp0_1.length cp0_1] Try.isAgg24 Try.sizeOf24 rfl rfl rfl rfl ?_))))))
  refine pu (.slice Ap1 lp1.length cp1) (by kernel_rfl) (bindE hF (fun y32 hy33 hF => ?_))
  refine seq_c (s_call 81 [.agg #[iv p0_0, .slice Ap0_1 lp0_1.length cp0_1], .slice Ap1 lp1.length cp1] (by kernel_rfl) (L81 _ p0_0 Ap0_1 cp0_1 lp0_1 Ap1 cp1 lp1 (hCp0_1.inv0 hI) hMp0_1 hKp0_1 (hCp1.inv0 hI) hMp1 hKp1 N _ hy33) ?_)
  rintro v w ⟨g34, c35, cl36, rfl, hN, r37⟩
  have hI := hI.join hN; clear hN
  refine pu (.tuple #[.agg #[slv g34 y32.1.length c35], .bool y32.2]) (by kernel_rfl) (pu (.agg #[slv g34 y32.1.length c35]) (by kernel_rfl) (pu (.bool y32.2) (by kernel_rfl) (seq_c (s_allocI hI [.slice none 0 0] Try.zeroValue97 rfl ?_))))
  intro b38 w hI
  refine seq_c (s_store hI 0 1 [slv g34 y32.1.length c35] Try.sizeOf97 rfl rfl rfl rfl rfl (Nat.le_of_ble_eq_true rfl) ?_)
  intro w hI
  refine pu (.bool y32.2) (by kernel_rfl) (seq_nil (wp_seq (rgn (by kernel_rfl) (pu (.bool y32.2) (by kernel_rfl) (pu (.bool y32.2) (by kernel_rfl) (pu (iv 0) (by kernel_rfl) (seq_nil (wp_ret ?_))))))))
  replace hF := Option.some.inj hF; subst hF
  exact ⟨.tuple #[.bool y32.2, iv 0], Ret.r2 rfl rfl rfl, ⟨rfl, hI.below⟩⟩
 ·
  refine seq_c (s_neq rfl rfl (fun _ => ?_) (fun h => absurd (a := y23 = 0) h h8))
  refine seq_nil (wp_condT rfl (wp_seq (rgn (by kernel_rfl) (pu (iv y23) (by kernel_rfl) (pu (.bool false) (by kernel_rfl) (pu (iv y23) (by kernel_rfl) (seq_nil (wp_ret ?_))))))))
  replace hF := Option.some.inj hF; subst hF
  exact ⟨.tuple #[.bool false, iv y23], Ret.r2 rfl rfl rfl, ⟨rfl, hI.below⟩⟩


theorem L48 (w0 : World) (p0_0 : Int) (Ap0_1 : Option Addr) (cp0_1 : Nat) (lp0_1 : List Cm) (Ap1 : Option Addr) (cp1 : Nat) (lp1 : List Int) (hCp0_1 : Cells w0 Ap0_1 (flat eCm lp0_1)) (hMp0_1 : lp0_1.length ≤ 9223372036854775807) (hKp0_1 : lp0_1.length ≤ cp0_1) (hCp1 : Cells w0 Ap1 (flat eInt lp1)) (hMp1 : lp1.length ≤ 9223372036854775807) (hKp1 : lp1.length ≤ cp1) (N : Nat) (r : Int) (hF : F48 N p0_0 lp0_1 lp1 = some r) : Does Try.prog 48 [.agg #[.int .i64 p0_0, .slice Ap0_1 lp0_1.length cp0_1], .slice Ap1 lp1.length cp1] w0 fun v w => v = .int .i64 r ∧ Below w0.heap.size w0 w := by
 refine calls_of (n := 19) Try.func48 rfl Try.ntmps48 rfl ?_
 have hI := Inv.start w0
 unfold F48 at hF
 refine wp_seq (rgn (by kernel_rfl) (seq_c (s_boxI hI [iv p0_0, .slice Ap0_1 lp0_1.length cp0_1] rfl ?_)))
 intro b6 w hI
 refine pu (iv 0) (by kernel_rfl) (seq_nil (wp_seq (rgn (by kernel_rfl) (seq_c (s_loadK hI 0 2 [iv p0_0, .slice Ap0_1 lp0_1.length cp0_1] Try.isAgg24 Try.sizeOf24 rfl rfl rfl rfl ?_)))))
 refine pu (.slice Ap1 lp1.length cp1) (by kernel_rfl) (bindE hF (fun y9 hy10 hF => ?_))
 refine seq_c (s_callv hI 45 [.agg #[iv p0_0, .slice Ap0_1 lp0_1.length cp0_1], .slice Ap1 lp1.length cp1] (.tuple #[.bool y9.1, iv y9.2]) (by kernel_rfl) (L45 _ p0_0 Ap0_1 cp0_1 lp0_1 Ap1 cp1 lp1 (hCp0_1.inv0 hI) hMp0_1 hKp0_1 (hCp1.inv0 hI) hMp1 hKp1 N _ hy10) ?_)
 intro w hI
 refine pu (.tuple #[.bool y9.1, iv y9.2]) (by kernel_rfl) (pu (.bool y9.1) (by kernel_rfl) (pu (iv y9.2) (by kernel_rfl) (pu (.bool y9.1) (by kernel_rfl) (pu (iv y9.2) (by kernel_rfl) (seq_nil (wp_seq (wp_seq (ifE hF (fun h22 hF => ?_) (fun h22 hF => ?_)))))))))
 ·
  rw [h22]
  refine rgn (by kernel_rfl) (pu (iv y9.2) (by kernel_rfl) (ifE hF (fun h23 hF => ?_) (fun h23 hF => ?_)))
  ·
   refine seq_c (s_eql rfl rfl (fun _ => ?_) (fun h => absurd (a := y9.2 = 0) h23 h))
   refine pu (.bool true) (by kernel_rfl) (puo (.bool true) ⟨(by kernel_rfl), (by kernel_rfl)⟩ (pu (.bool true) (by kernel_rfl) (seq_nil (wp_condT rfl (wp_seq (rgn (by kernel_rfl) (pu (iv 55) (by kernel_rfl) (seq_nil (wp_ret ?_)))))))))
   replace hF := Option.some.inj hF; subst hF
   exact ⟨iv 55, Ret.r1 rfl rfl, ⟨rfl, hI.below⟩⟩
  ·
   refine seq_c (s_eql rfl rfl (fun h => absurd (a := y9.2 = 0) h h23) (fun _ => ?_))
   refine pu (.bool false) (by kernel_rfl) (of_ (by kernel_rfl) (pu (.bool false) (by kernel_rfl) (seq_nil (wp_condF rfl (wp_skip (wp_seq (rgn (by kernel_rfl) (pu (iv y9.2) (by kernel_rfl) (pu (iv y9.2) (by kernel_rfl) ?_)))))))))
   refine seq_nil (wp_ret ?_)
   replace hF := Option.some.inj hF; subst hF
   exact ⟨iv y9.2, Ret.r1 rfl rfl, ⟨rfl, hI.below⟩⟩
 ·
  rw [(Bool.eq_false_iff.2 h22)]
  refine rgn (by kernel_rfl) (pu (iv y9.2) (by kernel_rfl) (ifE hF (fun h24 hF => ?_) (fun h24 hF => ?_)))
  ·
   refine seq_c (s_eql rfl rfl (fun _ => ?_) (fun h => absurd (a := y9.2 = 0) h24 h))
   refine pu (.bool true) (by kernel_rfl) (puo (.bool false) ⟨(by kernel_rfl), (by kernel_rfl)⟩ (pu (.bool false) (by kernel_rfl) (seq_nil (wp_condF rfl (wp_skip (wp_seq (rgn (by kernel_rfl) (pu (iv y9.2) (by kernel_rfl) (pu (iv y9.2) (by kernel_rfl) ?_)))))))))
   refine seq_nil (wp_ret ?_)
   replace hF := Option.some.inj hF; subst hF
   exact ⟨iv y9.2, Ret.r1 rfl rfl, ⟨rfl, hI.below⟩⟩
  ·
   refine seq_c (s_eql rfl rfl (fun h => absurd (a := y9.2 = 0) h h24) (fun _ => ?_))
   refine pu (.bool false) (by kernel_rfl) (of_ (by kernel_rfl) (pu (.bool false) (by kernel_rfl) (seq_nil (wp_condF rfl (wp_skip (wp_seq (rgn (by kernel_rfl) (pu (iv y9.2) (by kernel_rfl) (pu (iv y9.2) (by kernel_rfl) ?_)))))))))
   refine seq_nil (wp_ret ?_)
   replace hF := Option.some.inj hF; subst hF
   exact ⟨iv y9.2, Ret.r1 rfl rfl, ⟨rfl, hI.below⟩⟩


theorem L49 (w0 : World) (p0_0 : Int) (Ap0_1 : Option Addr) (cp0_1 : Nat) (lp0_1 : List Cm) (hCp0_1 : Cells w0 Ap0_1 (flat eCm lp0_1)) (hMp0_1 : lp0_1.length ≤ 9223372036854775807) (hKp0_1 : lp0_1.length ≤ cp0_1) (N : Nat) (r : Int) (hF : F49 N p0_0 lp0_1 = some r) : Does Try.prog 49 [.agg #[.int .i64 p0_0, .slice Ap0_1 lp0_1.length cp0_1]] w0 fun v w => v = .int .i64 r ∧ Below w0.heap.size w0 w := by
 refine calls_of (n := 10) Try.func49 rfl Try.ntmps49 rfl ?_
 have hI := Inv.start w0
 unfold F49 at hF
 refine wp_seq (rgn (by kernel_rfl) (seq_c (s_boxI hI [iv p0_0, .slice Ap0_1 lp0_1.length cp0_1] rfl ?_)))
 intro b34 w hI
 refine pu (iv 0) (by kernel_rfl) (seq_nil (wp_seq (wp_seq (rgn (by kernel_rfl) (seq_c (s_loadK hI 0 2 [iv p0_0, .slice Ap0_1 lp0_1.length cp0_1] Try.isAgg24 Try.sizeOf24 rfl rfl rfl rfl ?_))))))
 refine bindE hF (fun y41 hy42 hF => ?_)
 refine seq_c (s_callv hI 24 [.agg #[iv p0_0, .slice Ap0_1 lp0_1.length cp0_1]] (iv y41) (by kernel_rfl) (L24 _ p0_0 Ap0_1 cp0_1 lp0_1 (hCp0_1.inv0 hI) hMp0_1 hKp0_1 N _ hy42) ?_)
 intro w hI
 refine ifE hF (fun h8 hF => ?_) (fun h8 hF => ?_)
 ·
  refine seq_c (s_neq rfl rfl (fun h => absurd (a := y41 = 0) h8 h) (fun _ => ?_))
  refine seq_nil (wp_condF rfl (wp_skip (wp_seq (bindE hF (fun y55 hy56 hF => ?_)))))
  refine bindE hF (fun y61 hy62 hF => ?_)
  refine wp_drawn2 hI [0] (by decide) rfl (by kernel_rfl) (by kernel_rfl) ?_
  intro hsub
  refine al_light 0 (.agg #[iv p0_0, .slice Ap0_1 lp0_1.length cp0_1]) hsub rfl (by kernel_rfl) (fun w hI => s_loadK hI 0 2 [iv p0_0, .slice Ap0_1 lp0_1.length cp0_1] Try.isAgg24 Try.sizeOf24 rfl rfl rfl rfl ⟨rfl, Below.refl _ _⟩) ?_
  refine al_light 1 (.agg #[iv p0_0, .slice Ap0_1 lp0_1.length cp0_1]) hsub rfl (by kernel_rfl) (fun w hI => s_loadK hI 0 2 [iv p0_0, .slice Ap0_1 lp0_1.length cp0_1] Try.isAgg24 Try.sizeOf24 rfl rfl rfl rfl ⟨rfl, Below.refl _ _⟩) ?_
  refine any_heavy [2] (by kernel_rfl) rfl (each1 ?_)
  intro w hI
  refine ol_c rfl (s_call 82 [.agg #[iv p0_0, .slice Ap0_1 lp0_1.length cp0_1], iv 1] (by kernel_rfl) (L82 _ p0_0 Ap0_1 cp0_1 lp0_1 1 (hCp0_1.inv0 hI) hMp0_1 hKp0_1 N _ hy56) ?_)
  rintro v w ⟨g63, c64, cl65, rfl, hN, r66⟩
  have hI := hI.join hN; clear hN
  refine ⟨_, hI, subk (fun _ h => h.pickL [1] (by decide) rfl) ?_⟩
  intro hsub
  refine any_heavy [3] (by kernel_rfl) rfl (each1 ?_)
  intro w hI
  refine ol_c rfl (s_callv hI 48 [.agg #[iv p0_0, .slice Ap0_1 lp0_1.length cp0_1], slv g63 y55.length c64] (iv y61) (by kernel_rfl) (L48 _ p0_0 Ap0_1 cp0_1 lp0_1 (g63.map fun b => ⟨b, 0, none⟩) c64 y55 (hCp0_1.inv0 hI) hMp0_1 hKp0_1 (hI.rowCells 0 rfl r66) (len_le rfl r66.big) (len_le rfl r66.cap) N _ hy62) ?_)
  intro w hI
  refine ⟨_, hI, subk (fun _ h => h.pickL [1] (by decide) rfl) ?_⟩
  intro hsub
  refine alp 4 (iv y61) hsub rfl (by kernel_rfl) (fun _ => (by kernel_rfl)) ?_
  refine any_end (by kernel_rfl) (fun w hI => ?_)
  refine wp_ret ?_
  replace hF := Option.some.inj hF; subst hF
  exact ⟨iv y61, Ret.r1 rfl rfl, ⟨rfl, hI.below⟩⟩
 ·
  refine seq_c (s_neq rfl rfl (fun _ => ?_) (fun h => absurd (a := y41 = 0) h h8))
  refine seq_nil (wp_condT rfl (wp_seq (rgn (by kernel_rfl) (pu (iv 52) (by kernel_rfl) (seq_nil (wp_ret ?_))))))
  replace hF := Option.some.inj hF; subst hF
  exact ⟨iv 52, Ret.r1 rfl rfl, ⟨rfl, hI.below⟩⟩


theorem L6 (w0 : World) (p0_0 : Int) (Ap0_1 : Option Addr) (cp0_1 : Nat) (lp0_1 : List Cm) (Ap1 : Option Addr) (cp1 : Nat) (lp1 : List Int) (Ap2 : Option Addr) (cp2 : Nat) (lp2 : List Int) (hCp0_1 : Cells w0 Ap0_1 (flat eCm lp0_1)) (hMp0_1 : lp0_1.length ≤ 9223372036854775807) (hKp0_1 : lp0_1.length ≤ cp0_1) (hCp1 : Cells w0 Ap1 (flat eInt lp1)) (hMp1 : lp1.length ≤ 9223372036854775807) (hKp1 : lp1.length ≤ cp1) (hCp2 : Cells w0 Ap2 (flat eInt lp2)) (hMp2 : lp2.length ≤ 9223372036854775807) (hKp2 : lp2.length ≤ cp2) (N : Nat) (r : Bool) (hF : F6 N p0_0 lp0_1 lp1 lp2 = some r) : Does Try.prog 6 [.agg #[.int .i64 p0_0, .slice Ap0_1 lp0_1.length cp0_1], .slice Ap1 lp1.length cp1, .slice Ap2 lp2.length cp2] w0 fun v w => v = .bool r ∧ Below w0.heap.size w0 w := by
 refine calls_of (n := 108) Try.func6 rfl Try.ntmps6 rfl ?_
 have hI := Inv.start w0
 unfold F6 at hF
 refine wp_seq (rgn (by kernel_rfl) (seq_c (s_boxI hI [iv p0_0, .slice Ap0_1 lp0_1.length cp0_1] rfl ?_)))
 intro b142 w hI
 refine pu (.bool false) (by kernel_rfl) (seq_nil (wp_seq (rgn (by kernel_rfl) (seq_c (s_loadK hI 0 2 [iv p0_0, .slice Ap0_1 lp0_1.length cp0_1] Try.isAgg24 Try.sizeOf24 rfl rfl rfl rfl ?_)))))
 refine pu (.slice Ap1 lp1.length cp1) (by kernel_rfl) (bindE hF (fun y145 hy146 hF => ?_))
 refine seq_c (s_callv hI 44 [.agg #[iv p0_0, .slice Ap0_1 lp0_1.length cp0_1], .slice Ap1 lp1.length cp1] (.tuple #[.bool y145.1, iv y145.2]) (by kernel_rfl) (L44 _ p0_0 Ap0_1 cp0_1 lp0_1 Ap1 cp1 lp1 (hCp0_1.inv0 hI) hMp0_1 hKp0_1 (hCp1.inv0 hI) hMp1 hKp1 N _ hy146) ?_)
 intro w hI
 refine pu (.tuple #[.bool y145.1, iv y145.2]) (by kernel_rfl) (pu (.bool y145.1) (by kernel_rfl) (pu (iv y145.2) (by kernel_rfl) (pu (.bool y145.1) (by kernel_rfl) (pu (iv y145.2) (by kernel_rfl) (seq_nil (wp_seq (rgn (by kernel_rfl) (seq_c (s_loadK hI 0 2 [iv p0_0, .slice Ap0_1 lp0_1.length cp0_1] Try.isAgg24 Try.sizeOf24 rfl rfl rfl rfl ?_)))))))))
 refine pu (.slice Ap1 lp1.length cp1) (by kernel_rfl) (bindE hF (fun y149 hy150 hF => ?_))
 refine seq_c (s_callv hI 45 [.agg #[iv p0_0, .slice Ap0_1 lp0_1.length cp0_1], .slice Ap1 lp1.length cp1] (.tuple #[.bool y149.1, iv y149.2]) (by kernel_rfl) (L45 _ p0_0 Ap0_1 cp0_1 lp0_1 Ap1 cp1 lp1 (hCp0_1.inv0 hI) hMp0_1 hKp0_1 (hCp1.inv0 hI) hMp1 hKp1 N _ hy150) ?_)
 intro w hI
 refine pu (.tuple #[.bool y149.1, iv y149.2]) (by kernel_rfl) (pu (.bool y149.1) (by kernel_rfl) (pu (iv y149.2) (by kernel_rfl) (pu (.bool y149.1) (by kernel_rfl) (pu (iv y149.2) (by kernel_rfl) (seq_nil (wp_seq (rgn (by kernel_rfl) (seq_c (s_loadK hI 0 2 [iv p0_0, .slice Ap0_1 lp0_1.length cp0_1] Try.isAgg24 Try.sizeOf24 rfl rfl rfl rfl ?_)))))))))
 refine pu (.slice Ap1 lp1.length cp1) (by kernel_rfl) (bindE hF (fun y157 hy158 hF => ?_))
 refine seq_c (s_call 46 [.agg #[iv p0_0, .slice Ap0_1 lp0_1.length cp0_1], .slice Ap1 lp1.length cp1] (by kernel_rfl) (L46 _ p0_0 Ap0_1 cp0_1 lp0_1 Ap1 cp1 lp1 (hCp0_1.inv0 hI) hMp0_1 hKp0_1 (hCp1.inv0 hI) hMp1 hKp1 N _ hy158) ?_)
 rintro v w ⟨g159, c160, cl161, rfl, hN, r162⟩
 have hI := hI.join hN; clear hN
 refine pu (.tuple #[slv g159 y157.1.length c160, iv y157.2]) (by kernel_rfl) (pu (slv g159 y157.1.length c160) (by kernel_rfl) (pu (iv y157.2) (by kernel_rfl) (pu (slv g159 y157.1.length c160) (by kernel_rfl) (pu (iv y157.2) (by kernel_rfl) (seq_nil (wp_seq (rgn (by kernel_rfl) (seq_c (s_loadK hI 1 2 [iv p0_0, .slice Ap0_1 lp0_1.length cp0_1] Try.isAgg24 Try.sizeOf24 rfl rfl rfl rfl ?_)))))))))
 refine bindE hF (fun y169 hy170 hF => ?_)
 refine seq_c (s_call 47 [.agg #[iv p0_0, .slice Ap0_1 lp0_1.length cp0_1]] (by kernel_rfl) (L47 _ p0_0 Ap0_1 cp0_1 lp0_1 (hCp0_1.inv0 hI) hMp0_1 hKp0_1 N _ hy170) ?_)
 rintro v w ⟨g171, c172, cl173, rfl, hN, r174⟩
 have hI := hI.join hN; clear hN
 refine pu (.tuple #[slv g171 y169.1.length c172, iv y169.2]) (by kernel_rfl) (pu (slv g171 y169.1.length c172) (by kernel_rfl) (pu (iv y169.2) (by kernel_rfl) (pu (slv g171 y169.1.length c172) (by kernel_rfl) (pu (iv y169.2) (by kernel_rfl) (seq_nil (wp_seq (wp_seq (ifE hF (fun h60 hF => ?_) (fun h60 hF => ?_)))))))))
 ·
  refine ifE hF (fun h61 hF => ?_) (fun h61 hF => ?_)
  ·
   refine bindE hF (fun y199 hy200 hF => ?_)
   refine ifE hF (fun h62 hF => ?_) (fun h62 hF => ?_)
   ·
    refine bindE hF (fun y201 hy202 hF => ?_)
    refine ifE hF (fun h63 hF => ?_) (fun h63 hF => ?_)
    ·
     refine bindE hF (fun y203 hy204 hF => ?_)
     refine bindE hF (fun y205 hy206 hF => ?_)
     refine ifE hF (fun h64 hF => ?_) (fun h64 hF => ?_)
     ·
      refine wp_drawn2 hI [0, 1, 2] (by decide) rfl (by kernel_rfl) (by kernel_rfl) ?_
      intro hsub
      refine alp 0 (.bool y145.1) hsub rfl (by kernel_rfl) (fun _ => (by kernel_rfl)) ?_
      refine alp 1 (.bool y149.1) hsub rfl (by kernel_rfl) (fun _ => (by kernel_rfl)) ?_
      refine al_light 2 (.bool false) hsub rfl (by kernel_rfl) (fun w hI => s_neqB Try.underlying4 rfl rfl (fun h => absurd (a := y145.1 = y149.1) h60 h) (fun _ => ⟨rfl, Below.refl _ _⟩)) ?_
      refine alp 3 (.bool false) hsub rfl (by kernel_rfl) (fun _ => (by kernel_rfl)) ?_
      refine al_on 4 (iv y145.2) hsub rfl (by kernel_rfl) (by kernel_rfl) (fun w hI => s_pure (iv y145.2) (by kernel_rfl) ⟨rfl, Below.refl _ _⟩) ?_
      refine al_on 5 (iv y149.2) hsub rfl (by kernel_rfl) (by kernel_rfl) (fun w hI => s_pure (iv y149.2) (by kernel_rfl) ⟨rfl, Below.refl _ _⟩) ?_
      refine al_on 6 (.bool false) hsub rfl (by kernel_rfl) (by kernel_rfl) (fun w hI => s_neq rfl rfl (fun h => absurd (a := y145.2 = y149.2) h61 h) (fun _ => ⟨rfl, Below.refl _ _⟩)) ?_
      refine alp 7 (.bool false) hsub rfl (by kernel_rfl) (fun _ => (by kernel_rfl)) ?_
      refine alp 8 (.bool false) hsub rfl (by kernel_rfl) (fun _ => (by kernel_rfl)) ?_
      refine al_on 9 (iv y157.2) hsub rfl (by kernel_rfl) (by kernel_rfl) (fun w hI => s_pure (iv y157.2) (by kernel_rfl) ⟨rfl, Below.refl _ _⟩) ?_
      refine al_on 10 (.agg #[iv p0_0, .slice Ap0_1 lp0_1.length cp0_1]) hsub rfl (by kernel_rfl) (by kernel_rfl) (fun w hI => s_loadK hI 2 2 [iv p0_0, .slice Ap0_1 lp0_1.length cp0_1] Try.isAgg24 Try.sizeOf24 rfl rfl rfl rfl ⟨rfl, Below.refl _ _⟩) ?_
      refine al_on 11 (.slice Ap1 lp1.length cp1) hsub rfl (by kernel_rfl) (by kernel_rfl) (fun w hI => s_pure (.slice Ap1 lp1.length cp1) (by kernel_rfl) ⟨rfl, Below.refl _ _⟩) ?_
      refine al_on 12 (iv y199) hsub rfl (by kernel_rfl) (by kernel_rfl) (fun w hI => s_call 48 [.agg #[iv p0_0, .slice Ap0_1 lp0_1.length cp0_1], .slice Ap1 lp1.length cp1] (by kernel_rfl) (L48 _ p0_0 Ap0_1 cp0_1 lp0_1 Ap1 cp1 lp1 (hCp0_1.inv0 hI) hMp0_1 hKp0_1 (hCp1.inv0 hI) hMp1 hKp1 N _ hy200) (fun v' w' h => h)) ?_
      refine al_on 13 (.bool false) hsub rfl (by kernel_rfl) (by kernel_rfl) (fun w hI => s_neq rfl rfl (fun h => absurd (a := y157.2 = y199) h62 h) (fun _ => ⟨rfl, Below.refl _ _⟩)) ?_
      refine alp 14 (.bool false) hsub rfl (by kernel_rfl) (fun _ => (by kernel_rfl)) ?_
      refine alp 15 (.bool false) hsub rfl (by kernel_rfl) (fun _ => (by kernel_rfl)) ?_
      refine al_on 16 (iv y169.2) hsub rfl (by kernel_rfl) (by kernel_rfl) (fun w hI => s_pure (iv y169.2) (by kernel_rfl) ⟨rfl, Below.refl _ _⟩) ?_
      refine al_on 17 (.agg #[iv p0_0, .slice Ap0_1 lp0_1.length cp0_1]) hsub rfl (by kernel_rfl) (by kernel_rfl) (fun w hI => s_loadK hI 2 2 [iv p0_0, .slice Ap0_1 lp0_1.length cp0_1] Try.isAgg24 Try.sizeOf24 rfl rfl rfl rfl ⟨rfl, Below.refl _ _⟩) ?_
      refine al_on 18 (iv y201) hsub rfl (by kernel_rfl) (by kernel_rfl) (fun w hI => s_call 49 [.agg #[iv p0_0, .slice Ap0_1 lp0_1.length cp0_1]] (by kernel_rfl) (L49 _ p0_0 Ap0_1 cp0_1 lp0_1 (hCp0_1.inv0 hI) hMp0_1 hKp0_1 N _ hy202) (fun v' w' h => h)) ?_
      refine al_on 19 (.bool false) hsub rfl (by kernel_rfl) (by kernel_rfl) (fun w hI => s_neq rfl rfl (fun h => absurd (a := y169.2 = y201) h63 h) (fun _ => ⟨rfl, Below.refl _ _⟩)) ?_
      refine alp 20 (.bool false) hsub rfl (by kernel_rfl) (fun _ => (by kernel_rfl)) ?_
      refine alp 21 (.bool false) hsub rfl (by kernel_rfl) (fun _ => (by kernel_rfl)) ?_
      refine al_on 22 (.agg #[iv p0_0, .slice Ap0_1 lp0_1.length cp0_1]) hsub rfl (by kernel_rfl) (by kernel_rfl) (fun w hI => s_loadK hI 2 2 [iv p0_0, .slice Ap0_1 lp0_1.length cp0_1] Try.isAgg24 Try.sizeOf24 rfl rfl rfl rfl ⟨rfl, Below.refl _ _⟩) ?_
      refine al_on 23 (.slice Ap1 lp1.length cp1) hsub rfl (by kernel_rfl) (by kernel_rfl) (fun w hI => s_pure (.slice Ap1 lp1.length cp1) (by kernel_rfl) ⟨rfl, Below.refl _ _⟩) ?_
      refine al_on 24 (.slice Ap2 lp2.length cp2) hsub rfl (by kernel_rfl) (by kernel_rfl) (fun w hI => s_pure (.slice Ap2 lp2.length cp2) (by kernel_rfl) ⟨rfl, Below.refl _ _⟩) ?_
      refine al_on 25 (iv y203) hsub rfl (by kernel_rfl) (by kernel_rfl) (fun w hI => s_call 50 [.agg #[iv p0_0, .slice Ap0_1 lp0_1.length cp0_1], .slice Ap1 lp1.length cp1, .slice Ap2 lp2.length cp2] (by kernel_rfl) (L50 _ p0_0 Ap0_1 cp0_1 lp0_1 Ap1 cp1 lp1 Ap2 cp2 lp2 (hCp0_1.inv0 hI) hMp0_1 hKp0_1 (hCp1.inv0 hI) hMp1 hKp1 (hCp2.inv0 hI) hMp2 hKp2 N _ hy204) (fun v' w' h => h)) ?_
      refine al_on 26 (.agg #[iv p0_0, .slice Ap0_1 lp0_1.length cp0_1]) hsub rfl (by kernel_rfl) (by kernel_rfl) (fun w hI => s_loadK hI 2 2 [iv p0_0, .slice Ap0_1 lp0_1.length cp0_1] Try.isAgg24 Try.sizeOf24 rfl rfl rfl rfl ⟨rfl, Below.refl _ _⟩) ?_
      refine al_on 27 (.slice Ap1 lp1.length cp1) hsub rfl (by kernel_rfl) (by kernel_rfl) (fun w hI => s_pure (.slice Ap1 lp1.length cp1) (by kernel_rfl) ⟨rfl, Below.refl _ _⟩) ?_
      refine al_on 28 (.slice Ap2 lp2.length cp2) hsub rfl (by kernel_rfl) (by kernel_rfl) (fun w hI => s_pure (.slice Ap2 lp2.length cp2) (by kernel_rfl) ⟨rfl, Below.refl _ _⟩) ?_
      refine al_on 29 (iv y205) hsub rfl (by kernel_rfl) (by kernel_rfl) (fun w hI => s_call 51 [.agg #[iv p0_0, .slice Ap0_1 lp0_1.length cp0_1], .slice Ap1 lp1.length cp1, .slice Ap2 lp2.length cp2] (by kernel_rfl) (L51 _ p0_0 Ap0_1 cp0_1 lp0_1 Ap1 cp1 lp1 Ap2 cp2 lp2 (hCp0_1.inv0 hI) hMp0_1 hKp0_1 (hCp1.inv0 hI) hMp1 hKp1 (hCp2.inv0 hI) hMp2 hKp2 N _ hy206) (fun v' w' h => h)) ?_
      refine al_on 30 (.bool false) hsub rfl (by kernel_rfl) (by kernel_rfl) (fun w hI => s_neq rfl rfl (fun h => absurd (a := y203 = y205) h64 h) (fun _ => ⟨rfl, Below.refl _ _⟩)) ?_
      refine alp 31 (.bool false) hsub rfl (by kernel_rfl) (fun _ => (by kernel_rfl)) ?_
      refine any_end (by kernel_rfl) (fun w hI => ?_)
      refine wp_condF rfl (wp_skip (wp_seq (wp_cutO (fun ρ w => Agree ρ [(3, .pointer (some ⟨b142, 0, none⟩)), (13, slv g171 y169.1.length c172), (14, iv y169.2), (87, .bool false)] ∧ Inv [] w0 w [(some b142, blk [iv p0_0, .slice Ap0_1 lp0_1.length cp0_1] 24), (g171, blk cl173 3)] ∧ F6j1 p0_0 lp0_1 N y169 = some r) ?_ ?_)))
      ·
       refine rgn (by kernel_rfl) (pu (iv y157.2) (by kernel_rfl) (ifE hF (fun h86 hF => ?_) (fun h86 hF => ?_)))
       ·
        refine seq_c (s_eql rfl rfl (fun _ => ?_) (fun h => absurd (a := y157.2 = 0) h86 h))
        refine pu (.bool true) (by kernel_rfl) (seq_on (by kernel_rfl) (s_loadK hI 2 2 [iv p0_0, .slice Ap0_1 lp0_1.length cp0_1] Try.isAgg24 Try.sizeOf24 rfl rfl rfl rfl ?_))
        refine puo (.slice Ap1 lp1.length cp1) ⟨(by kernel_rfl), (by kernel_rfl)⟩ (puo (slv g159 y157.1.length c160) ⟨(by kernel_rfl), (by kernel_rfl)⟩ (bindE hF (fun y281 hy282 hF => ?_)))
        refine seq_on (by kernel_rfl) (s_callv hI 51 [.agg #[iv p0_0, .slice Ap0_1 lp0_1.length cp0_1], .slice Ap1 lp1.length cp1, slv g159 y157.1.length c160] (iv y281) (by kernel_rfl) (L51 _ p0_0 Ap0_1 cp0_1 lp0_1 Ap1 cp1 lp1 (g159.map fun b => ⟨b, 0, none⟩) c160 y157.1 (hCp0_1.inv0 hI) hMp0_1 hKp0_1 (hCp1.inv0 hI) hMp1 hKp1 (hI.rowCells 1 rfl r162) (len_le rfl r162.big) (len_le rfl r162.cap) N _ hy282) ?_)
        intro w hI
        refine ifE hF (fun h87 hF => ?_) (fun h87 hF => ?_)
        ·
         refine seq_on (by kernel_rfl) (s_neq rfl rfl (fun h => absurd (a := y281 = 0) h87 h) (fun _ => ?_))
         refine pu (.bool false) (by kernel_rfl) (pu (.bool false) (by kernel_rfl) (puo (iv y157.2) ⟨(by kernel_rfl), (by kernel_rfl)⟩ (seq_on (by kernel_rfl) (s_neq rfl rfl (fun h => absurd (a := y157.2 = 0) h86 h) (fun _ => ?_)))))
         refine puo (.bool false) ⟨(by kernel_rfl), (by kernel_rfl)⟩ (of_ (by kernel_rfl) (of_ (by kernel_rfl) (of_ (by kernel_rfl) (puo (.bool false) ⟨(by kernel_rfl), (by kernel_rfl)⟩ (pu (.bool false) (by kernel_rfl) (seq_nil ?_))))))
         exact .inl ⟨rfl, ⟨⟨rfl, rfl, rfl, rfl, trivial⟩, hI.pickL [2, 0] (by decide) rfl, hF⟩⟩
        ·
         refine seq_on (by kernel_rfl) (s_neq rfl rfl (fun _ => ?_) (fun h => absurd (a := y281 = 0) h h87))
         refine pu (.bool true) (by kernel_rfl) (pu (.bool true) (by kernel_rfl) (of_ (by kernel_rfl) (of_ (by kernel_rfl) (of_ (by kernel_rfl) (seq_offN (by kernel_rfl) ?_)))))
         refine seq_offN (by kernel_rfl) ?_
         refine seq_offN (by kernel_rfl) ?_
         refine of_ (by kernel_rfl) (pu (.bool true) (by kernel_rfl) (seq_nil (.inr ?_)))
         refine wp_condT rfl (wp_seq (rgn (by kernel_rfl) (pu (.bool false) (by kernel_rfl) (seq_nil (wp_ret ?_)))))
         replace hF := Option.some.inj hF; subst hF
         exact ⟨.bool false, Ret.r1 rfl rfl, ⟨rfl, hI.below⟩⟩
       ·
        refine seq_c (s_eql rfl rfl (fun h => absurd (a := y157.2 = 0) h h86) (fun _ => ?_))
        refine pu (.bool false) (by kernel_rfl) (of_ (by kernel_rfl) (of_ (by kernel_rfl) (of_ (by kernel_rfl) (of_ (by kernel_rfl) (of_ (by kernel_rfl) (pu (.bool false) (by kernel_rfl) (pu (.bool false) (by kernel_rfl) (puo (iv y157.2) ⟨(by kernel_rfl), (by kernel_rfl)⟩ (seq_on (by kernel_rfl) (s_neq rfl rfl (fun _ => ?_) (fun h => absurd (a := y157.2 = 0) h h86)))))))))))
        refine puo (.bool true) ⟨(by kernel_rfl), (by kernel_rfl)⟩ (puo (slv g159 y157.1.length c160) ⟨(by kernel_rfl), (by kernel_rfl)⟩ (puo (iv ((y157.1.length : Nat) : Int)) ⟨(by kernel_rfl), (by kernel_rfl)⟩ (ifE hF (fun h88 hF => ?_) (fun h88 hF => ?_))))
        ·
         refine seq_on (by kernel_rfl) (s_gtr rfl rfl (fun _ => ?_) (fun h => absurd (a := 0 < (y157.1.length : Int)) h88 h))
         refine puo (.bool true) ⟨(by kernel_rfl), (by kernel_rfl)⟩ (pu (.bool true) (by kernel_rfl) (seq_nil (.inr ?_)))
         refine wp_condT rfl (wp_seq (rgn (by kernel_rfl) (pu (.bool false) (by kernel_rfl) (seq_nil (wp_ret ?_)))))
         replace hF := Option.some.inj hF; subst hF
         exact ⟨.bool false, Ret.r1 rfl rfl, ⟨rfl, hI.below⟩⟩
        ·
         refine seq_on (by kernel_rfl) (s_gtr rfl rfl (fun h => absurd (a := 0 < (y157.1.length : Int)) h h88) (fun _ => ?_))
         refine puo (.bool false) ⟨(by kernel_rfl), (by kernel_rfl)⟩ (pu (.bool false) (by kernel_rfl) (seq_nil ?_))
         exact .inl ⟨rfl, ⟨⟨rfl, rfl, rfl, rfl, trivial⟩, hI.pickL [2, 0] (by decide) rfl, hF⟩⟩
      ·intro ρ w hJ
       obtain ⟨hag, hI, hF⟩ := hJ
       obtain ⟨ρ, rfl⟩ := hag.form; clear hag
       unfold F6j1 at hF
       refine wp_condF rfl (wp_skip (wp_seq (wp_cutO (fun ρ w => Agree ρ [(106, .bool false)] ∧ Inv [] w0 w [] ∧ F6j2 N = some r) ?_ ?_)))
       ·
        refine ifE hF (fun h83 hF => ?_) (fun h83 hF => ?_)
        ·
         refine bindE hF (fun y265 hy266 hF => ?_)
         refine bindE hF (fun y271 hy272 hF => ?_)
         refine ifE hF (fun h84 hF => ?_) (fun h84 hF => ?_)
         ·
          refine wp_drawn2 hI [0, 1] (by decide) rfl (by kernel_rfl) (by kernel_rfl) ?_
          intro hsub
          refine alp 0 (iv y169.2) hsub rfl (by kernel_rfl) (fun _ => (by kernel_rfl)) ?_
          refine al_light 1 (.bool true) hsub rfl (by kernel_rfl) (fun w hI => s_eql rfl rfl (fun _ => ⟨rfl, Below.refl _ _⟩) (fun h => absurd (a := y169.2 = 0) h83 h)) ?_
          refine alp 2 (.bool true) hsub rfl (by kernel_rfl) (fun _ => (by kernel_rfl)) ?_
          refine al_on 3 (.agg #[iv p0_0, .slice Ap0_1 lp0_1.length cp0_1]) hsub rfl (by kernel_rfl) (by kernel_rfl) (fun w hI => s_loadK hI 0 2 [iv p0_0, .slice Ap0_1 lp0_1.length cp0_1] Try.isAgg24 Try.sizeOf24 rfl rfl rfl rfl ⟨rfl, Below.refl _ _⟩) ?_
          refine al_on 4 (.agg #[iv p0_0, .slice Ap0_1 lp0_1.length cp0_1]) hsub rfl (by kernel_rfl) (by kernel_rfl) (fun w hI => s_loadK hI 0 2 [iv p0_0, .slice Ap0_1 lp0_1.length cp0_1] Try.isAgg24 Try.sizeOf24 rfl rfl rfl rfl ⟨rfl, Below.refl _ _⟩) ?_
          refine al_on 6 (slv g171 y169.1.length c172) hsub rfl (by kernel_rfl) (by kernel_rfl) (fun w hI => s_pure (slv g171 y169.1.length c172) (by kernel_rfl) ⟨rfl, Below.refl _ _⟩) ?_
          refine any_heavy [5] (by kernel_rfl) rfl (each1 ?_)
          intro w hI
          refine ol_on rfl (by kernel_rfl) (s_call 52 [.agg #[iv p0_0, .slice Ap0_1 lp0_1.length cp0_1], iv 1] (by kernel_rfl) (L52 _ p0_0 Ap0_1 cp0_1 lp0_1 1 (hCp0_1.inv0 hI) hMp0_1 hKp0_1 N _ hy266) ?_)
          rintro v w ⟨g273, c274, cl275, rfl, hN, r276⟩
          have hI := hI.join hN; clear hN
          refine ⟨_, hI, subk (fun _ h => h.pickL [1, 2] (by decide) rfl) ?_⟩
          intro hsub
          refine any_heavy [7] (by kernel_rfl) rfl (each1 ?_)
          intro w hI
          refine ol_on rfl (by kernel_rfl) (s_callv hI 51 [.agg #[iv p0_0, .slice Ap0_1 lp0_1.length cp0_1], slv g273 y265.length c274, slv g171 y169.1.length c172] (iv y271) (by kernel_rfl) (L51 _ p0_0 Ap0_1 cp0_1 lp0_1 (g273.map fun b => ⟨b, 0, none⟩) c274 y265 (g171.map fun b => ⟨b, 0, none⟩) c172 y169.1 (hCp0_1.inv0 hI) hMp0_1 hKp0_1 (hI.rowCells 0 rfl r276) (len_le rfl r276.big) (len_le rfl r276.cap) (hI.rowCells 2 rfl r174) (len_le rfl r174.big) (len_le rfl r174.cap) N _ hy272) ?_)
          intro w hI
          refine ⟨_, hI, subk (fun _ h => h.pickL [1, 2] (by decide) rfl) ?_⟩
          intro hsub
          refine al_on 8 (.bool false) hsub rfl (by kernel_rfl) (by kernel_rfl) (fun w hI => s_neq rfl rfl (fun h => absurd (a := y271 = 0) h84 h) (fun _ => ⟨rfl, Below.refl _ _⟩)) ?_
          refine alp 9 (.bool false) hsub rfl (by kernel_rfl) (fun _ => (by kernel_rfl)) ?_
          refine alp 10 (.bool false) hsub rfl (by kernel_rfl) (fun _ => (by kernel_rfl)) ?_
          refine al_on 11 (iv y169.2) hsub rfl (by kernel_rfl) (by kernel_rfl) (fun w hI => s_pure (iv y169.2) (by kernel_rfl) ⟨rfl, Below.refl _ _⟩) ?_
          refine al_on 12 (.bool false) hsub rfl (by kernel_rfl) (by kernel_rfl) (fun w hI => s_neq rfl rfl (fun h => absurd (a := y169.2 = 0) h83 h) (fun _ => ⟨rfl, Below.refl _ _⟩)) ?_
          refine al_on 13 (.bool false) hsub rfl (by kernel_rfl) (by kernel_rfl) (fun w hI => s_pure (.bool false) (by kernel_rfl) ⟨rfl, Below.refl _ _⟩) ?_
          refine al_off 14 hsub rfl (by kernel_rfl) (by kernel_rfl) ?_
          refine al_off 15 hsub rfl (by kernel_rfl) (by kernel_rfl) ?_
          refine al_off 16 hsub rfl (by kernel_rfl) (by kernel_rfl) ?_
          refine al_on 17 (.bool false) hsub rfl (by kernel_rfl) (by kernel_rfl) (fun w hI => s_pure (.bool false) (by kernel_rfl) ⟨rfl, Below.refl _ _⟩) ?_
          refine alp 18 (.bool false) hsub rfl (by kernel_rfl) (fun _ => (by kernel_rfl)) ?_
          refine any_end (by kernel_rfl) (fun w hI => ?_)
          exact .inl ⟨rfl, ⟨⟨rfl, trivial⟩, hI.pickL [] (by decide) rfl, hF⟩⟩
         ·
          refine wp_drawn2 hI [0, 1] (by decide) rfl (by kernel_rfl) (by kernel_rfl) ?_
          intro hsub
          refine alp 0 (iv y169.2) hsub rfl (by kernel_rfl) (fun _ => (by kernel_rfl)) ?_
          refine al_light 1 (.bool true) hsub rfl (by kernel_rfl) (fun w hI => s_eql rfl rfl (fun _ => ⟨rfl, Below.refl _ _⟩) (fun h => absurd (a := y169.2 = 0) h83 h)) ?_
          refine alp 2 (.bool true) hsub rfl (by kernel_rfl) (fun _ => (by kernel_rfl)) ?_
          refine al_on 3 (.agg #[iv p0_0, .slice Ap0_1 lp0_1.length cp0_1]) hsub rfl (by kernel_rfl) (by kernel_rfl) (fun w hI => s_loadK hI 0 2 [iv p0_0, .slice Ap0_1 lp0_1.length cp0_1] Try.isAgg24 Try.sizeOf24 rfl rfl rfl rfl ⟨rfl, Below.refl _ _⟩) ?_
          refine al_on 4 (.agg #[iv p0_0, .slice Ap0_1 lp0_1.length cp0_1]) hsub rfl (by kernel_rfl) (by kernel_rfl) (fun w hI => s_loadK hI 0 2 [iv p0_0, .slice Ap0_1 lp0_1.length cp0_1] Try.isAgg24 Try.sizeOf24 rfl rfl rfl rfl ⟨rfl, Below.refl _ _⟩) ?_
          refine al_on 6 (slv g171 y169.1.length c172) hsub rfl (by kernel_rfl) (by kernel_rfl) (fun w hI => s_pure (slv g171 y169.1.length c172) (by kernel_rfl) ⟨rfl, Below.refl _ _⟩) ?_
          refine any_heavy [5] (by kernel_rfl) rfl (each1 ?_)
          intro w hI
          refine ol_on rfl (by kernel_rfl) (s_call 52 [.agg #[iv p0_0, .slice Ap0_1 lp0_1.length cp0_1], iv 1] (by kernel_rfl) (L52 _ p0_0 Ap0_1 cp0_1 lp0_1 1 (hCp0_1.inv0 hI) hMp0_1 hKp0_1 N _ hy266) ?_)
          rintro v w ⟨g277, c278, cl279, rfl, hN, r280⟩
          have hI := hI.join hN; clear hN
          refine ⟨_, hI, subk (fun _ h => h.pickL [1, 2] (by decide) rfl) ?_⟩
          intro hsub
          refine any_heavy [7] (by kernel_rfl) rfl (each1 ?_)
          intro w hI
          refine ol_on rfl (by kernel_rfl) (s_callv hI 51 [.agg #[iv p0_0, .slice Ap0_1 lp0_1.length cp0_1], slv g277 y265.length c278, slv g171 y169.1.length c172] (iv y271) (by kernel_rfl) (L51 _ p0_0 Ap0_1 cp0_1 lp0_1 (g277.map fun b => ⟨b, 0, none⟩) c278 y265 (g171.map fun b => ⟨b, 0, none⟩) c172 y169.1 (hCp0_1.inv0 hI) hMp0_1 hKp0_1 (hI.rowCells 0 rfl r280) (len_le rfl r280.big) (len_le rfl r280.cap) (hI.rowCells 2 rfl r174) (len_le rfl r174.big) (len_le rfl r174.cap) N _ hy272) ?_)
          intro w hI
          refine ⟨_, hI, subk (fun _ h => h.pickL [1, 2] (by decide) rfl) ?_⟩
          intro hsub
          refine al_on 8 (.bool true) hsub rfl (by kernel_rfl) (by kernel_rfl) (fun w hI => s_neq rfl rfl (fun _ => ⟨rfl, Below.refl _ _⟩) (fun h => absurd (a := y271 = 0) h h84)) ?_
          refine alp 9 (.bool true) hsub rfl (by kernel_rfl) (fun _ => (by kernel_rfl)) ?_
          refine alp 10 (.bool true) hsub rfl (by kernel_rfl) (fun _ => (by kernel_rfl)) ?_
          refine al_off 11 hsub rfl (by kernel_rfl) (by kernel_rfl) ?_
          refine al_off 12 hsub rfl (by kernel_rfl) (by kernel_rfl) ?_
          refine al_off 13 hsub rfl (by kernel_rfl) (by kernel_rfl) ?_
          refine al_off 14 hsub rfl (by kernel_rfl) (by kernel_rfl) ?_
          refine al_off 15 hsub rfl (by kernel_rfl) (by kernel_rfl) ?_
          refine al_off 16 hsub rfl (by kernel_rfl) (by kernel_rfl) ?_
          refine al_off 17 hsub rfl (by kernel_rfl) (by kernel_rfl) ?_
          refine alp 18 (.bool true) hsub rfl (by kernel_rfl) (fun _ => (by kernel_rfl)) ?_
          refine any_end (by kernel_rfl) (fun w hI => ?_)
          refine .inr ?_
          refine wp_condT rfl (wp_seq (rgn (by kernel_rfl) (pu (.bool false) (by kernel_rfl) (seq_nil (wp_ret ?_)))))
          replace hF := Option.some.inj hF; subst hF
          exact ⟨.bool false, Ret.r1 rfl rfl, ⟨rfl, hI.below⟩⟩
        ·
         refine ifE hF (fun h85 hF => ?_) (fun h85 hF => ?_)
         ·
          refine wp_drawn2 hI [0, 1] (by decide) rfl (by kernel_rfl) (by kernel_rfl) ?_
          intro hsub
          refine alp 0 (iv y169.2) hsub rfl (by kernel_rfl) (fun _ => (by kernel_rfl)) ?_
          refine al_light 1 (.bool false) hsub rfl (by kernel_rfl) (fun w hI => s_eql rfl rfl (fun h => absurd (a := y169.2 = 0) h h83) (fun _ => ⟨rfl, Below.refl _ _⟩)) ?_
          refine alp 2 (.bool false) hsub rfl (by kernel_rfl) (fun _ => (by kernel_rfl)) ?_
          refine al_off 3 hsub rfl (by kernel_rfl) (by kernel_rfl) ?_
          refine al_off 4 hsub rfl (by kernel_rfl) (by kernel_rfl) ?_
          refine al_off 5 hsub rfl (by kernel_rfl) (by kernel_rfl) ?_
          refine al_off 6 hsub rfl (by kernel_rfl) (by kernel_rfl) ?_
          refine al_off 7 hsub rfl (by kernel_rfl) (by kernel_rfl) ?_
          refine al_off 8 hsub rfl (by kernel_rfl) (by kernel_rfl) ?_
          refine alp 9 (.bool false) hsub rfl (by kernel_rfl) (fun _ => (by kernel_rfl)) ?_
          refine alp 10 (.bool false) hsub rfl (by kernel_rfl) (fun _ => (by kernel_rfl)) ?_
          refine al_on 11 (iv y169.2) hsub rfl (by kernel_rfl) (by kernel_rfl) (fun w hI => s_pure (iv y169.2) (by kernel_rfl) ⟨rfl, Below.refl _ _⟩) ?_
          refine al_on 12 (.bool true) hsub rfl (by kernel_rfl) (by kernel_rfl) (fun w hI => s_neq rfl rfl (fun _ => ⟨rfl, Below.refl _ _⟩) (fun h => absurd (a := y169.2 = 0) h h83)) ?_
          refine al_on 13 (.bool true) hsub rfl (by kernel_rfl) (by kernel_rfl) (fun w hI => s_pure (.bool true) (by kernel_rfl) ⟨rfl, Below.refl _ _⟩) ?_
          refine al_on 14 (slv g171 y169.1.length c172) hsub rfl (by kernel_rfl) (by kernel_rfl) (fun w hI => s_pure (slv g171 y169.1.length c172) (by kernel_rfl) ⟨rfl, Below.refl _ _⟩) ?_
          refine al_on 15 (iv (y169.1.length : Int)) hsub rfl (by kernel_rfl) (by kernel_rfl) (fun w hI => s_pure (iv ((y169.1.length : Nat) : Int)) (by kernel_rfl) ⟨rfl, Below.refl _ _⟩) ?_
          refine al_on 16 (.bool true) hsub rfl (by kernel_rfl) (by kernel_rfl) (fun w hI => s_gtr rfl rfl (fun _ => ⟨rfl, Below.refl _ _⟩) (fun h => absurd (a := 0 < (y169.1.length : Int)) h85 h)) ?_
          refine al_on 17 (.bool true) hsub rfl (by kernel_rfl) (by kernel_rfl) (fun w hI => s_pure (.bool true) (by kernel_rfl) ⟨rfl, Below.refl _ _⟩) ?_
          refine alp 18 (.bool true) hsub rfl (by kernel_rfl) (fun _ => (by kernel_rfl)) ?_
          refine any_end (by kernel_rfl) (fun w hI => ?_)
          refine .inr ?_
          refine wp_condT rfl (wp_seq (rgn (by kernel_rfl) (pu (.bool false) (by kernel_rfl) (seq_nil (wp_ret ?_)))))
          replace hF := Option.some.inj hF; subst hF
          exact ⟨.bool false, Ret.r1 rfl rfl, ⟨rfl, hI.below⟩⟩
         ·
          refine wp_drawn2 hI [0, 1] (by decide) rfl (by kernel_rfl) (by kernel_rfl) ?_
          intro hsub
          refine alp 0 (iv y169.2) hsub rfl (by kernel_rfl) (fun _ => (by kernel_rfl)) ?_
          refine al_light 1 (.bool false) hsub rfl (by kernel_rfl) (fun w hI => s_eql rfl rfl (fun h => absurd (a := y169.2 = 0) h h83) (fun _ => ⟨rfl, Below.refl _ _⟩)) ?_
          refine alp 2 (.bool false) hsub rfl (by kernel_rfl) (fun _ => (by kernel_rfl)) ?_
          refine al_off 3 hsub rfl (by kernel_rfl) (by kernel_rfl) ?_
          refine al_off 4 hsub rfl (by kernel_rfl) (by kernel_rfl) ?_
          refine al_off 5 hsub rfl (by kernel_rfl) (by kernel_rfl) ?_
          refine al_off 6 hsub rfl (by kernel_rfl) (by kernel_rfl) ?_
          refine al_off 7 hsub rfl (by kernel_rfl) (by kernel_rfl) ?_
          refine al_off 8 hsub rfl (by kernel_rfl) (by kernel_rfl) ?_
          refine alp 9 (.bool false) hsub rfl (by kernel_rfl) (fun _ => (by kernel_rfl)) ?_
          refine alp 10 (.bool false) hsub rfl (by kernel_rfl) (fun _ => (by kernel_rfl)) ?_
          refine al_on 11 (iv y169.2) hsub rfl (by kernel_rfl) (by kernel_rfl) (fun w hI => s_pure (iv y169.2) (by kernel_rfl) ⟨rfl, Below.refl _ _⟩) ?_
          refine al_on 12 (.bool true) hsub rfl (by kernel_rfl) (by kernel_rfl) (fun w hI => s_neq rfl rfl (fun _ => ⟨rfl, Below.refl _ _⟩) (fun h => absurd (a := y169.2 = 0) h h83)) ?_
          refine al_on 13 (.bool true) hsub rfl (by kernel_rfl) (by kernel_rfl) (fun w hI => s_pure (.bool true) (by kernel_rfl) ⟨rfl, Below.refl _ _⟩) ?_
          refine al_on 14 (slv g171 y169.1.length c172) hsub rfl (by kernel_rfl) (by kernel_rfl) (fun w hI => s_pure (slv g171 y169.1.length c172) (by kernel_rfl) ⟨rfl, Below.refl _ _⟩) ?_
          refine al_on 15 (iv (y169.1.length : Int)) hsub rfl (by kernel_rfl) (by kernel_rfl) (fun w hI => s_pure (iv ((y169.1.length : Nat) : Int)) (by kernel_rfl) ⟨rfl, Below.refl _ _⟩) ?_
          refine al_on 16 (.bool false) hsub rfl (by kernel_rfl) (by kernel_rfl) (fun w hI => s_gtr rfl rfl (fun h => absurd (a := 0 < (y169.1.length : Int)) h h85) (fun _ => ⟨rfl, Below.refl _ _⟩)) ?_
          refine al_on 17 (.bool false) hsub rfl (by kernel_rfl) (by kernel_rfl) (fun w hI => s_pure (.bool false) (by kernel_rfl) ⟨rfl, Below.refl _ _⟩) ?_
          refine alp 18 (.bool false) hsub rfl (by kernel_rfl) (fun _ => (by kernel_rfl)) ?_
          refine any_end (by kernel_rfl) (fun w hI => ?_)
          exact .inl ⟨rfl, ⟨⟨rfl, trivial⟩, hI.pickL [] (by decide) rfl, hF⟩⟩
       ·intro ρ w hJ
        obtain ⟨hag, hI, hF⟩ := hJ
        obtain ⟨ρ, rfl⟩ := hag.form; clear hag
        unfold F6j2 at hF
        refine wp_condF rfl (wp_skip (wp_seq (rgn (by kernel_rfl) (bindE hF (fun y263 hy264 hF => ?_)))))
        refine seq_c (s_callv hI 25 [] (.bool y263) (by kernel_rfl) (L25 _ N _ hy264) ?_)
        intro w hI
        refine pu (.bool y263) (by kernel_rfl) (seq_nil (wp_ret ?_))
        replace hF := Option.some.inj hF; subst hF
        exact ⟨.bool y263, Ret.r1 rfl rfl, ⟨rfl, hI.below⟩⟩
     ·
      refine wp_drawn2 hI [0, 1, 2] (by decide) rfl (by kernel_rfl) (by kernel_rfl) ?_
      intro hsub
      refine alp 0 (.bool y145.1) hsub rfl (by kernel_rfl) (fun _ => (by kernel_rfl)) ?_
      refine alp 1 (.bool y149.1) hsub rfl (by kernel_rfl) (fun _ => (by kernel_rfl)) ?_
      refine al_light 2 (.bool false) hsub rfl (by kernel_rfl) (fun w hI => s_neqB Try.underlying4 rfl rfl (fun h => absurd (a := y145.1 = y149.1) h60 h) (fun _ => ⟨rfl, Below.refl _ _⟩)) ?_
      refine alp 3 (.bool false) hsub rfl (by kernel_rfl) (fun _ => (by kernel_rfl)) ?_
      refine al_on 4 (iv y145.2) hsub rfl (by kernel_rfl) (by kernel_rfl) (fun w hI => s_pure (iv y145.2) (by kernel_rfl) ⟨rfl, Below.refl _ _⟩) ?_
      refine al_on 5 (iv y149.2) hsub rfl (by kernel_rfl) (by kernel_rfl) (fun w hI => s_pure (iv y149.2) (by kernel_rfl) ⟨rfl, Below.refl _ _⟩) ?_
      refine al_on 6 (.bool false) hsub rfl (by kernel_rfl) (by kernel_rfl) (fun w hI => s_neq rfl rfl (fun h => absurd (a := y145.2 = y149.2) h61 h) (fun _ => ⟨rfl, Below.refl _ _⟩)) ?_
      refine alp 7 (.bool false) hsub rfl (by kernel_rfl) (fun _ => (by kernel_rfl)) ?_
      refine alp 8 (.bool false) hsub rfl (by kernel_rfl) (fun _ => (by kernel_rfl)) ?_
      refine al_on 9 (iv y157.2) hsub rfl (by kernel_rfl) (by kernel_rfl) (fun w hI => s_pure (iv y157.2) (by kernel_rfl) ⟨rfl, Below.refl _ _⟩) ?_
      refine al_on 10 (.agg #[iv p0_0, .slice Ap0_1 lp0_1.length cp0_1]) hsub rfl (by kernel_rfl) (by kernel_rfl) (fun w hI => s_loadK hI 2 2 [iv p0_0, .slice Ap0_1 lp0_1.length cp0_1] Try.isAgg24 Try.sizeOf24 rfl rfl rfl rfl ⟨rfl, Below.refl _ _⟩) ?_
      refine al_on 11 (.slice Ap1 lp1.length cp1) hsub rfl (by kernel_rfl) (by kernel_rfl) (fun w hI => s_pure (.slice Ap1 lp1.length cp1) (by kernel_rfl) ⟨rfl, Below.refl _ _⟩) ?_
      refine al_on 12 (iv y199) hsub rfl (by kernel_rfl) (by kernel_rfl) (fun w hI => s_call 48 [.agg #[iv p0_0, .slice Ap0_1 lp0_1.length cp0_1], .slice Ap1 lp1.length cp1] (by kernel_rfl) (L48 _ p0_0 Ap0_1 cp0_1 lp0_1 Ap1 cp1 lp1 (hCp0_1.inv0 hI) hMp0_1 hKp0_1 (hCp1.inv0 hI) hMp1 hKp1 N _ hy200) (fun v' w' h => h)) ?_
      refine al_on 13 (.bool false) hsub rfl (by kernel_rfl) (by kernel_rfl) (fun w hI => s_neq rfl rfl (fun h => absurd (a := y157.2 = y199) h62 h) (fun _ => ⟨rfl, Below.refl _ _⟩)) ?_
      refine alp 14 (.bool false) hsub rfl (by kernel_rfl) (fun _ => (by kernel_rfl)) ?_
      refine alp 15 (.bool false) hsub rfl (by kernel_rfl) (fun _ => (by kernel_rfl)) ?_
      refine al_on 16 (iv y169.2) hsub rfl (by kernel_rfl) (by kernel_rfl) (fun w hI => s_pure (iv y169.2) (by kernel_rfl) ⟨rfl, Below.refl _ _⟩) ?_
      refine al_on 17 (.agg #[iv p0_0, .slice Ap0_1 lp0_1.length cp0_1]) hsub rfl (by kernel_rfl) (by kernel_rfl) (fun w hI => s_loadK hI 2 2 [iv p0_0, .slice Ap0_1 lp0_1.length cp0_1] Try.isAgg24 Try.sizeOf24 rfl rfl rfl rfl ⟨rfl, Below.refl _ _⟩) ?_
      refine al_on 18 (iv y201) hsub rfl (by kernel_rfl) (by kernel_rfl) (fun w hI => s_call 49 [.agg #[iv p0_0, .slice Ap0_1 lp0_1.length cp0_1]] (by kernel_rfl) (L49 _ p0_0 Ap0_1 cp0_1 lp0_1 (hCp0_1.inv0 hI) hMp0_1 hKp0_1 N _ hy202) (fun v' w' h => h)) ?_
      refine al_on 19 (.bool false) hsub rfl (by kernel_rfl) (by kernel_rfl) (fun w hI => s_neq rfl rfl (fun h => absurd (a := y169.2 = y201) h63 h) (fun _ => ⟨rfl, Below.refl _ _⟩)) ?_
      refine alp 20 (.bool false) hsub rfl (by kernel_rfl) (fun _ => (by kernel_rfl)) ?_
      refine alp 21 (.bool false) hsub rfl (by kernel_rfl) (fun _ => (by kernel_rfl)) ?_
      refine al_on 22 (.agg #[iv p0_0, .slice Ap0_1 lp0_1.length cp0_1]) hsub rfl (by kernel_rfl) (by kernel_rfl) (fun w hI => s_loadK hI 2 2 [iv p0_0, .slice Ap0_1 lp0_1.length cp0_1] Try.isAgg24 Try.sizeOf24 rfl rfl rfl rfl ⟨rfl, Below.refl _ _⟩) ?_
      refine al_on 23 (.slice Ap1 lp1.length cp1) hsub rfl (by kernel_rfl) (by kernel_rfl) (fun w hI => s_pure (.slice Ap1 lp1.length cp1) (by kernel_rfl) ⟨rfl, Below.refl _ _⟩) ?_
      refine al_on 24 (.slice Ap2 lp2.length cp2) hsub rfl (by kernel_rfl) (by kernel_rfl) (fun w hI => s_pure (.slice Ap2 lp2.length cp2) (by kernel_rfl) ⟨rfl, Below.refl _ _⟩) ?_
      refine al_on 25 (iv y203) hsub rfl (by kernel_rfl) (by kernel_rfl) (fun w hI => s_call 50 [.agg #[iv p0_0, .slice Ap0_1 lp0_1.length cp0_1], .slice Ap1 lp1.length cp1, .slice Ap2 lp2.length cp2] (by kernel_rfl) (L50 _ p0_0 Ap0_1 cp0_1 lp0_1 Ap1 cp1 lp1 Ap2 cp2 lp2 (hCp0_1.inv0 hI) hMp0_1 hKp0_1 (hCp1.inv0 hI) hMp1 hKp1 (hCp2.inv0 hI) hMp2 hKp2 N _ hy204) (fun v' w' h => h)) ?_
      refine al_on 26 (.agg #[iv p0_0, .slice Ap0_1 lp0_1.length cp0_1]) hsub rfl (by kernel_rfl) (by kernel_rfl) (fun w hI => s_loadK hI 2 2 [iv p0_0, .slice Ap0_1 lp0_1.length cp0_1] Try.isAgg24 Try.sizeOf24 rfl rfl rfl rfl ⟨rfl, Below.refl _ _⟩) ?_
      refine al_on 27 (.slice Ap1 lp1.length cp1) hsub rfl (by kernel_rfl) (by kernel_rfl) (fun w hI => s_pure (.slice Ap1 lp1.length cp1) (by kernel_rfl) ⟨rfl, Below.refl _ _⟩) ?_
      refine al_on 28 (.slice Ap2 lp2.length cp2) hsub rfl (by kernel_rfl) (by kernel_rfl) (fun w hI => s_pure (.slice Ap2 lp2.length cp2) (by kernel_rfl) ⟨rfl, Below.refl _ _⟩) ?_
      refine al_on 29 (iv y205) hsub rfl (by kernel_rfl) (by kernel_rfl) (fun w hI => s_call 51 [.agg #[iv p0_0, .slice Ap0_1 lp0_1.length cp0_1], .slice Ap1 lp1.length cp1, .slice Ap2 lp2.length cp2] (by kernel_rfl) (L51 _ p0_0 Ap0_1 cp0_1 lp0_1 Ap1 cp1 lp1 Ap2 cp2 lp2 (hCp0_1.inv0 hI) hMp0_1 hKp0_1 (hCp1.inv0 hI) hMp1 hKp1 (hCp2.inv0 hI) hMp2 hKp2 N _ hy206) (fun v' w' h => h)) ?_
      refine al_on 30 (.bool true) hsub rfl (by kernel_rfl) (by kernel_rfl) (fun w hI => s_neq rfl rfl (fun _ => ⟨rfl, Below.refl _ _⟩) (fun h => absurd (a := y203 = y205) h h64)) ?_
      refine alp 31 (.bool true) hsub rfl (by kernel_rfl) (fun _ => (by kernel_rfl)) ?_
      refine any_end (by kernel_rfl) (fun w hI => ?_)
      refine wp_condT rfl (wp_seq (rgn (by kernel_rfl) (pu (.bool false) (by kernel_rfl) (seq_nil (wp_ret ?_)))))
      replace hF := Option.some.inj hF; subst hF
      exact ⟨.bool false, Ret.r1 rfl rfl, ⟨rfl, hI.below⟩⟩
    ·
     refine wp_drawn2 hI [0, 1, 2] (by decide) rfl (by kernel_rfl) (by kernel_rfl) ?_
     intro hsub
     refine alp 0 (.bool y145.1) hsub rfl (by kernel_rfl) (fun _ => (by kernel_rfl)) ?_
     refine alp 1 (.bool y149.1) hsub rfl (by kernel_rfl) (fun _ => (by kernel_rfl)) ?_
     refine al_light 2 (.bool false) hsub rfl (by kernel_rfl) (fun w hI => s_neqB Try.underlying4 rfl rfl (fun h => absurd (a := y145.1 = y149.1) h60 h) (fun _ => ⟨rfl, Below.refl _ _⟩)) ?_
     refine alp 3 (.bool false) hsub rfl (by kernel_rfl) (fun _ => (by kernel_rfl)) ?_
     refine al_on 4 (iv y145.2) hsub rfl (by kernel_rfl) (by kernel_rfl) (fun w hI => s_pure (iv y145.2) (by kernel_rfl) ⟨rfl, Below.refl _ _⟩) ?_
     refine al_on 5 (iv y149.2) hsub rfl (by kernel_rfl) (by kernel_rfl) (fun w hI => s_pure (iv y149.2) (by kernel_rfl) ⟨rfl, Below.refl _ _⟩) ?_
     refine al_on 6 (.bool false) hsub rfl (by kernel_rfl) (by kernel_rfl) (fun w hI => s_neq rfl rfl (fun h => absurd (a := y145.2 = y149.2) h61 h) (fun _ => ⟨rfl, Below.refl _ _⟩)) ?_
     refine alp 7 (.bool false) hsub rfl (by kernel_rfl) (fun _ => (by kernel_rfl)) ?_
     refine alp 8 (.bool false) hsub rfl (by kernel_rfl) (fun _ => (by kernel_rfl)) ?_
     refine al_on 9 (iv y157.2) hsub rfl (by kernel_rfl) (by kernel_rfl) (fun w hI => s_pure (iv y157.2) (by kernel_rfl) ⟨rfl, Below.refl _ _⟩) ?_
     refine al_on 10 (.agg #[iv p0_0, .slice Ap0_1 lp0_1.length cp0_1]) hsub rfl (by kernel_rfl) (by kernel_rfl) (fun w hI => s_loadK hI 2 2 [iv p0_0, .slice Ap0_1 lp0_1.length cp0_1] Try.isAgg24 Try.sizeOf24 rfl rfl rfl rfl ⟨rfl, Below.refl _ _⟩) ?_
     refine al_on 11 (.slice Ap1 lp1.length cp1) hsub rfl (by kernel_rfl) (by kernel_rfl) (fun w hI => s_pure (.slice Ap1 lp1.length cp1) (by kernel_rfl) ⟨rfl, Below.refl _ _⟩) ?_
     refine al_on 12 (iv y199) hsub rfl (by kernel_rfl) (by kernel_rfl) (fun w hI => s_call 48 [.agg #[iv p0_0, .slice Ap0_1 lp0_1.length cp0_1], .slice Ap1 lp1.length cp1] (by kernel_rfl) (L48 _ p0_0 Ap0_1 cp0_1 lp0_1 Ap1 cp1 lp1 (hCp0_1.inv0 hI) hMp0_1 hKp0_1 (hCp1.inv0 hI) hMp1 hKp1 N _ hy200) (fun v' w' h => h)) ?_
     refine al_on 13 (.bool false) hsub rfl (by kernel_rfl) (by kernel_rfl) (fun w hI => s_neq rfl rfl (fun h => absurd (a := y157.2 = y199) h62 h) (fun _ => ⟨rfl, Below.refl _ _⟩)) ?_
     refine alp 14 (.bool false) hsub rfl (by kernel_rfl) (fun _ => (by kernel_rfl)) ?_
     refine alp 15 (.bool false) hsub rfl (by kernel_rfl) (fun _ => (by kernel_rfl)) ?_
     refine al_on 16 (iv y169.2) hsub rfl (by kernel_rfl) (by kernel_rfl) (fun w hI => s_pure (iv y169.2) (by kernel_rfl) ⟨rfl, Below.refl _ _⟩) ?_
     refine al_on 17 (.agg #[iv p0_0, .slice Ap0_1 lp0_1.length cp0_1]) hsub rfl (by kernel_rfl) (by kernel_rfl) (fun w hI => s_loadK hI 2 2 [iv p0_0, .slice Ap0_1 lp0_1.length cp0_1] Try.isAgg24 Try.sizeOf24 rfl rfl rfl rfl ⟨rfl, Below.refl _ _⟩) ?_
     refine al_on 18 (iv y201) hsub rfl (by kernel_rfl) (by kernel_rfl) (fun w hI => s_call 49 [.agg #[iv p0_0, .slice Ap0_1 lp0_1.length cp0_1]] (by kernel_rfl) (L49 _ p0_0 Ap0_1 cp0_1 lp0_1 (hCp0_1.inv0 hI) hMp0_1 hKp0_1 N _ hy202) (fun v' w' h => h)) ?_
     refine al_on 19 (.bool true) hsub rfl (by kernel_rfl) (by kernel_rfl) (fun w hI => s_neq rfl rfl (fun _ => ⟨rfl, Below.refl _ _⟩) (fun h => absurd (a := y169.2 = y201) h h63)) ?_
     refine alp 20 (.bool true) hsub rfl (by kernel_rfl) (fun _ => (by kernel_rfl)) ?_
     refine alp 21 (.bool true) hsub rfl (by kernel_rfl) (fun _ => (by kernel_rfl)) ?_
     refine al_off 22 hsub rfl (by kernel_rfl) (by kernel_rfl) ?_
     refine al_off 23 hsub rfl (by kernel_rfl) (by kernel_rfl) ?_
     refine al_off 24 hsub rfl (by kernel_rfl) (by kernel_rfl) ?_
     refine al_off 25 hsub rfl (by kernel_rfl) (by kernel_rfl) ?_
     refine al_off 26 hsub rfl (by kernel_rfl) (by kernel_rfl) ?_
     refine al_off 27 hsub rfl (by kernel_rfl) (by kernel_rfl) ?_
     refine al_off 28 hsub rfl (by kernel_rfl) (by kernel_rfl) ?_
     refine al_off 29 hsub rfl (by kernel_rfl) (by kernel_rfl) ?_
     refine al_off 30 hsub rfl (by kernel_rfl) (by kernel_rfl) ?_
     refine alp 31 (.bool true) hsub rfl (by kernel_rfl) (fun _ => (by kernel_rfl)) ?_
     refine any_end (by kernel_rfl) (fun w hI => ?_)
     refine wp_condT rfl (wp_seq (rgn (by kernel_rfl) (pu (.bool false) (by kernel_rfl) (seq_nil (wp_ret ?_)))))
     replace hF := Option.some.inj hF; subst hF
     exact ⟨.bool false, Ret.r1 rfl rfl, ⟨rfl, hI.below⟩⟩
   ·
    refine wp_drawn2 hI [0, 1, 2] (by decide) rfl (by kernel_rfl) (by kernel_rfl) ?_
    intro hsub
    refine alp 0 (.bool y145.1) hsub rfl (by kernel_rfl) (fun _ => (by kernel_rfl)) ?_
    refine alp 1 (.bool y149.1) hsub rfl (by kernel_rfl) (fun _ => (by kernel_rfl)) ?_
    refine al_light 2 (.bool false) hsub rfl (by kernel_rfl) (fun w hI => s_neqB Try.underlying4 rfl rfl (fun h => absurd (a := y145.1 = y149.1) h60 h) (fun _ => ⟨rfl, Below.refl _ _⟩)) ?_
    refine alp 3 (.bool false) hsub rfl (by kernel_rfl) (fun _ => (by kernel_rfl)) ?_
    refine al_on 4 (iv y145.2) hsub rfl (by kernel_rfl) (by kernel_rfl) (fun w hI => s_pure (iv y145.2) (by kernel_rfl) ⟨rfl, Below.refl _ _⟩) ?_
    refine al_on 5 (iv y149.2) hsub rfl (by kernel_rfl) (by kernel_rfl) (fun w hI => s_pure (iv y149.2) (by kernel_rfl) ⟨rfl, Below.refl _ _⟩) ?_
    refine al_on 6 (.bool false) hsub rfl (by kernel_rfl) (by kernel_rfl) (fun w hI => s_neq rfl rfl (fun h => absurd (a := y145.2 = y149.2) h61 h) (fun _ => ⟨rfl, Below.refl _ _⟩)) ?_
    refine alp 7 (.bool false) hsub rfl (by kernel_rfl) (fun _ => (by kernel_rfl)) ?_
    refine alp 8 (.bool false) hsub rfl (by kernel_rfl) (fun _ => (by kernel_rfl)) ?_
    refine al_on 9 (iv y157.2) hsub rfl (by kernel_rfl) (by kernel_rfl) (fun w hI => s_pure (iv y157.2) (by kernel_rfl) ⟨rfl, Below.refl _ _⟩) ?_
    refine al_on 10 (.agg #[iv p0_0, .slice Ap0_1 lp0_1.length cp0_1]) hsub rfl (by kernel_rfl) (by kernel_rfl) (fun w hI => s_loadK hI 2 2 [iv p0_0, .slice Ap0_1 lp0_1.length cp0_1] Try.isAgg24 Try.sizeOf24 rfl rfl rfl rfl ⟨rfl, Below.refl _ _⟩) ?_
    refine al_on 11 (.slice Ap1 lp1.length cp1) hsub rfl (by kernel_rfl) (by kernel_rfl) (fun w hI => s_pure (.slice Ap1 lp1.length cp1) (by kernel_rfl) ⟨rfl, Below.refl _ _⟩) ?_
    refine al_on 12 (iv y199) hsub rfl (by kernel_rfl) (by kernel_rfl) (fun w hI => s_call 48 [.agg #[iv p0_0, .slice Ap0_1 lp0_1.length cp0_1], .slice Ap1 lp1.length cp1] (by kernel_rfl) (L48 _ p0_0 Ap0_1 cp0_1 lp0_1 Ap1 cp1 lp1 (hCp0_1.inv0 hI) hMp0_1 hKp0_1 (hCp1.inv0 hI) hMp1 hKp1 N _ hy200) (fun v' w' h => h)) ?_
    refine al_on 13 (.bool true) hsub rfl (by kernel_rfl) (by kernel_rfl) (fun w hI => s_neq rfl rfl (fun _ => ⟨rfl, Below.refl _ _⟩) (fun h => absurd (a := y157.2 = y199) h h62)) ?_
    refine alp 14 (.bool true) hsub rfl (by kernel_rfl) (fun _ => (by kernel_rfl)) ?_
    refine alp 15 (.bool true) hsub rfl (by kernel_rfl) (fun _ => (by kernel_rfl)) ?_
    refine al_off 16 hsub rfl (by kernel_rfl) (by kernel_rfl) ?_
    refine al_off 17 hsub rfl (by kernel_rfl) (by kernel_rfl) ?_
    refine al_off 18 hsub rfl (by kernel_rfl) (by kernel_rfl) ?_
    refine al_off 19 hsub rfl (by kernel_rfl) (by kernel_rfl) ?_
    refine alp 20 (.bool true) hsub rfl (by kernel_rfl) (fun _ => (by kernel_rfl)) ?_
    refine alp 21 (.bool true) hsub rfl (by kernel_rfl) (fun _ => (by kernel_rfl)) ?_
    refine al_off 22 hsub rfl (by kernel_rfl) (by kernel_rfl) ?_
    refine al_off 23 hsub rfl (by kernel_rfl) (by kernel_rfl) ?_
    refine al_off 24 hsub rfl (by kernel_rfl) (by kernel_rfl) ?_
    refine al_off 25 hsub rfl (by kernel_rfl) (by kernel_rfl) ?_
    refine al_off 26 hsub rfl (by kernel_rfl) (by kernel_rfl) ?_
    refine al_off 27 hsub rfl (by kernel_rfl) (by kernel_rfl) ?_
    refine al_off 28 hsub rfl (by kernel_rfl) (by kernel_rfl) ?_
    refine al_off 29 hsub rfl (by kernel_rfl) (by kernel_rfl) ?_
    refine al_off 30 hsub rfl (by kernel_rfl) (by kernel_rfl) ?_
    refine alp 31 (.bool true) hsub rfl (by kernel_rfl) (fun _ => (by kernel_rfl)) ?_
    refine any_end (by kernel_rfl) (fun w hI => ?_)
    refine wp_condT rfl (wp_seq (rgn (by kernel_rfl) (pu (.bool false) (by kernel_rfl) (seq_nil (wp_ret ?_)))))
    replace hF := Option.some.inj hF; subst hF
    exact ⟨.bool false, Ret.r1 rfl rfl, ⟨rfl, hI.below⟩⟩
  ·
   refine wp_drawn2 hI [0, 1, 2] (by decide) rfl (by kernel_rfl) (by kernel_rfl) ?_
   intro hsub
   refine alp 0 (.bool y145.1) hsub rfl (by kernel_rfl) (fun _ => (by kernel_rfl)) ?_
   refine alp 1 (.bool y149.1) hsub rfl (by kernel_rfl) (fun _ => (by kernel_rfl)) ?_
   refine al_light 2 (.bool false) hsub rfl (by kernel_rfl) (fun w hI => s_neqB Try.underlying4 rfl rfl (fun h => absurd (a := y145.1 = y149.1) h60 h) (fun _ => ⟨rfl, Below.refl _ _⟩)) ?_
   refine alp 3 (.bool false) hsub rfl (by kernel_rfl) (fun _ => (by kernel_rfl)) ?_
   refine al_on 4 (iv y145.2) hsub rfl (by kernel_rfl) (by kernel_rfl) (fun w hI => s_pure (iv y145.2) (by kernel_rfl) ⟨rfl, Below.refl _ _⟩) ?_
   refine al_on 5 (iv y149.2) hsub rfl (by kernel_rfl) (by kernel_rfl) (fun w hI => s_pure (iv y149.2) (by kernel_rfl) ⟨rfl, Below.refl _ _⟩) ?_
   refine al_on 6 (.bool true) hsub rfl (by kernel_rfl) (by kernel_rfl) (fun w hI => s_neq rfl rfl (fun _ => ⟨rfl, Below.refl _ _⟩) (fun h => absurd (a := y145.2 = y149.2) h h61)) ?_
   refine alp 7 (.bool true) hsub rfl (by kernel_rfl) (fun _ => (by kernel_rfl)) ?_
   refine alp 8 (.bool true) hsub rfl (by kernel_rfl) (fun _ => (by kernel_rfl)) ?_
   refine al_off 9 hsub rfl (by kernel_rfl) (by kernel_rfl) ?_
   refine al_off 10 hsub rfl (by kernel_rfl) (by kernel_rfl) ?_
   refine al_off 11 hsub rfl (by kernel_rfl) (by kernel_rfl) ?_
   refine al_off 12 hsub rfl (by kernel_rfl) (by kernel_rfl) ?_
   refine al_off 13 hsub rfl (by kernel_rfl) (by kernel_rfl) ?_
   refine alp 14 (.bool true) hsub rfl (by kernel_rfl) (fun _ => (by kernel_rfl)) ?_
   refine alp 15 (.bool true) hsub rfl (by kernel_rfl) (fun _ => (by kernel_rfl)) ?_
   refine al_off 16 hsub rfl (by kernel_rfl) (by kernel_rfl) ?_
   refine al_off 17 hsub rfl (by kernel_rfl) (by kernel_rfl) ?_
   refine al_off 18 hsub rfl (by kernel_rfl) (by kernel_rfl) ?_
   refine al_off 19 hsub rfl (by kernel_rfl) (by kernel_rfl) ?_
   refine alp 20 (.bool true) hsub rfl (by kernel_rfl) (fun _ => (by kernel_rfl)) ?_
   refine alp 21 (.bool true) hsub rfl (by kernel_rfl) (fun _ => (by kernel_rfl)) ?_
   refine al_off 22 hsub rfl (by kernel_rfl) (by kernel_rfl) ?_
   refine al_off 23 hsub rfl (by kernel_rfl) (by kernel_rfl) ?_
   refine al_off 24 hsub rfl (by kernel_rfl) (by kernel_rfl) ?_
   refine al_off 25 hsub rfl (by kernel_rfl) (by kernel_rfl) ?_
   refine al_off 26 hsub rfl (by kernel_rfl) (by kernel_rfl) ?_
   refine al_off 27 hsub rfl (by kernel_rfl) (by kernel_rfl) ?_
   refine al_off 28 hsub rfl (by kernel_rfl) (by kernel_rfl) ?_
   refine al_off 29 hsub rfl (by kernel_rfl) (by kernel_rfl) ?_
   refine al_off 30 hsub rfl (by kernel_rfl) (by kernel_rfl) ?_
   refine alp 31 (.bool true) hsub rfl (by kernel_rfl) (fun _ => (by kernel_rfl)) ?_
   refine any_end (by kernel_rfl) (fun w hI => ?_)
   refine wp_condT rfl (wp_seq (rgn (by kernel_rfl) (pu (.bool false) (by kernel_rfl) (seq_nil (wp_ret ?_)))))
   replace hF := Option.some.inj hF; subst hF
   exact ⟨.bool false, Ret.r1 rfl rfl, ⟨rfl, hI.below⟩⟩
 ·
  refine wp_drawn2 hI [0, 1, 2] (by decide) rfl (by kernel_rfl) (by kernel_rfl) ?_
  intro hsub
  refine alp 0 (.bool y145.1) hsub rfl (by kernel_rfl) (fun _ => (by kernel_rfl)) ?_
  refine alp 1 (.bool y149.1) hsub rfl (by kernel_rfl) (fun _ => (by kernel_rfl)) ?_
  refine al_light 2 (.bool true) hsub rfl (by kernel_rfl) (fun w hI => s_neqB Try.underlying4 rfl rfl (fun _ => ⟨rfl, Below.refl _ _⟩) (fun h => absurd (a := y145.1 = y149.1) h h60)) ?_
  refine alp 3 (.bool true) hsub rfl (by kernel_rfl) (fun _ => (by kernel_rfl)) ?_
  refine al_off 4 hsub rfl (by kernel_rfl) (by kernel_rfl) ?_
  refine al_off 5 hsub rfl (by kernel_rfl) (by kernel_rfl) ?_
  refine al_off 6 hsub rfl (by kernel_rfl) (by kernel_rfl) ?_
  refine alp 7 (.bool true) hsub rfl (by kernel_rfl) (fun _ => (by kernel_rfl)) ?_
  refine alp 8 (.bool true) hsub rfl (by kernel_rfl) (fun _ => (by kernel_rfl)) ?_
  refine al_off 9 hsub rfl (by kernel_rfl) (by kernel_rfl) ?_
  refine al_off 10 hsub rfl (by kernel_rfl) (by kernel_rfl) ?_
  refine al_off 11 hsub rfl (by kernel_rfl) (by kernel_rfl) ?_
  refine al_off 12 hsub rfl (by kernel_rfl) (by kernel_rfl) ?_
  refine al_off 13 hsub rfl (by kernel_rfl) (by kernel_rfl) ?_
  refine alp 14 (.bool true) hsub rfl (by kernel_rfl) (fun _ => (by kernel_rfl)) ?_
  refine alp 15 (.bool true) hsub rfl (by kernel_rfl) (fun _ => (by kernel_rfl)) ?_
  refine al_off 16 hsub rfl (by kernel_rfl) (by kernel_rfl) ?_
  refine al_off 17 hsub rfl (by kernel_rfl) (by kernel_rfl) ?_
  refine al_off 18 hsub rfl (by kernel_rfl) (by kernel_rfl) ?_
  refine al_off 19 hsub rfl (by kernel_rfl) (by kernel_rfl) ?_
  refine alp 20 (.bool true) hsub rfl (by kernel_rfl) (fun _ => (by kernel_rfl)) ?_
  refine alp 21 (.bool true) hsub rfl (by kernel_rfl) (fun _ => (by kernel_rfl)) ?_
  refine al_off 22 hsub rfl (by kernel_rfl) (by kernel_rfl) ?_
  refine al_off 23 hsub rfl (by kernel_rfl) (by kernel_rfl) ?_
  refine al_off 24 hsub rfl (by kernel_rfl) (by kernel_rfl) ?_
  refine al_off 25 hsub rfl (by kernel_rfl) (by kernel_rfl) ?_
  refine al_off 26 hsub rfl (by kernel_rfl) (by kernel_rfl) ?_
  refine al_off 27 hsub rfl (by kernel_rfl) (by kernel_rfl) ?_
  refine al_off 28 hsub rfl (by kernel_rfl) (by kernel_rfl) ?_
  refine al_off 29 hsub rfl (by kernel_rfl) (by kernel_rfl) ?_
  refine al_off 30 hsub rfl (by kernel_rfl) (by kernel_rfl) ?_
  refine alp 31 (.bool true) hsub rfl (by kernel_rfl) (fun _ => (by kernel_rfl)) ?_
  refine any_end (by kernel_rfl) (fun w hI => ?_)
  refine wp_condT rfl (wp_seq (rgn (by kernel_rfl) (pu (.bool false) (by kernel_rfl) (seq_nil (wp_ret ?_)))))
  replace hF := Option.some.inj hF; subst hF
  exact ⟨.bool false, Ret.r1 rfl rfl, ⟨rfl, hI.below⟩⟩


end Go.K
